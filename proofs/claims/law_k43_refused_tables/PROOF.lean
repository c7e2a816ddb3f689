import PyProof.Rows.All
import Wide.All
import OpenK.AllK
import Wide.FinOn
import Lean
import PyProof.EqAt
import PyProof.EqKinds
import PyProof.TupleCall
import PyProof.StationsW
import PyProof.RulesAs
import PyProof.ExcClass2
import PyProof.ExcInit
import PyProof.InstStore
import PyProof.ExcBaseAll.ValueError
import PyProof.ExcArgs
import PyProof.IsiBase
import PyProof.NsDelKeeps
import PyProof.CompFree
import PyProof.CompUse
import KE.LcSums
import PyProof.Rows.SortWalk
import PyProof.DictWalks
import PyProof.Rows.MinMaxN
import PyProof.Rows.DictUnroll
import PyProof.StrBlockI
import PyProof.NeKinds
import PyProof.AutoListH
import KE.KItemsList
import KE.RegMulBits
import KE.KDictOf
import PyProof.AttrMissHeap
import KE.KDictList
import KE.KRevIter
import KE.KSortTup
import PyProof.Rows.EnumRows
import PyProof.EnumFor
import PyProof.ConsumeWalk
import PyProof.TupleOfSeq
import PyProof.Draws
import PyProof.FactsAll.set
import PyProof.DictItems
import KE.KPairComp
import PyProof.DictValues
import PyProof.ZipIter
import PyProof.Rows.ZipGen
import PyProof.CollectWalk
import PySem.Challenge.RW_groupbooks_k43_refused_tables
set_option Elab.async false
set_option linter.all false
set_option maxRecDepth 100000
set_option maxHeartbeats 4000000
abbrev Q0 := PySem.Value → PySem.Shared → Prop
abbrev Q3 := List (PySem.Addr × PySem.Obj)
abbrev Q4 := PySem.W.Frag
abbrev Q5 := Option PySem.Value
open PySem.W (kitOne nsIn fnOf keepIn codeIn mg_of findIn exmOne mg_none_of)
section
open PySem PySem.W PyProof.Rows
set_option maxHeartbeats 0
noncomputable def K43.runTop (p : Program) (w : World) (m : Nat) : Nat → SharedT → Thread → Option SharedT
 | 0, _, _ => none
 | k + 1, s, t => match through t with
   | true => some s
   | false => match PySem.W.Fast.tw6613529449190102663 m (some (.ref 6)) t with
     | false => none
     | true => match PySem.W.Fast.tw10156331382660048174 (PySem.W.Fast.tw11892475500146522536 treeTable) p w s t with
       | some x => K43.runTop p w m k x.1 x.2
       | none => none
theorem K43.Qe7 (p : Program) (w : World) (m : Nat) : ∀ (k : Nat) (s s' : SharedT) (t : Thread),
 K43.runTop p w m k s t = some s' → topRun treeTable p w m (some (.ref 6)) k s.abs t = some s'.abs
 | 0, _, _, _, h => by cases h
 | k + 1, s, s', t, h => by
   unfold K43.runTop at h
   unfold topRun
   cases hT : through t with
   | true => rw [hT] at h; cases h; rfl
   | false =>
     rw [hT] at h
     dsimp only at h ⊢
     rw [← PySem.W.Fast.te6613529449190102663] at h
     cases hk : stepOk m (some (.ref 6)) t with
     | false => rw [hk] at h; exact absurd h (by simp)
     | true =>
       rw [hk] at h
       dsimp only at h ⊢
       rw [← PySem.W.Fast.te10156331382660048174, ← PySem.W.Fast.te11892475500146522536] at h
       cases hs : stepT (denote treeTable) p w s t with
       | none => rw [hs] at h; exact absurd h (by simp)
       | some x =>
         rw [hs] at h
         rw [stepT_spec (s' := x.1) (t' := x.2) hs]
         exact K43.Qe7 p w m k _ _ _ h
noncomputable def K43.bootT (P : Params) : BT := ((boot_heap P).objs.toList.foldl (fun a o => (a.1.ins a.2 o, a.2 + 1)) (BT.nil, 0)).1
theorem K43.Qns (P : Params) : absHeap (K43.bootT P) 11 (boot_heap P).life = boot_heap P := by kernel_rfl
theorem K43.Qk5 (P : Params) : ((boot_heap P).isNs mainGlobals, (boot_heap P).objs.size, (boot_heap P).nsMap mainGlobals "__annotations__") = (true, 11, some (.ref 6)) := by kernel_rfl
theorem K43.leftAtOnce {p q : Program} {lo : List Str} {A : Shared → Bool} {β : Type} {B : Shared → β} {D : World → β} {N : Nat} {g : Bool}
 (e : opening p = plainProg p.main.scope.names) (f : ∀ s, fenceModules? p s = some s) (hN : Nat.ble 600 N = true)
 (h : ∀ (w : World) (os : OsState), (K43.runTop p w 11 N ⟨K43.bootT w.params, 11, (boot_heap w.params).life, Array.mk [], boot_drawn, boot_toks, os⟩ (topStub p)).map
  (fun s => (staticsOk (importedModules p.main.body) (boot_heap w.params) s.abs.heap && namesBound p s.abs.heap && gensDone s.abs && laidKept (boot_heap w.params) s.abs.heap,
   openSeen q lo (importedModules p.main.body) A g s.abs, B s.abs)) = some (true, openGood q lo, D w)) : LeftO p q lo A B D N g := by
 intro w
 obtain ⟨⟨hh, gs, d, k, os⟩, e1, e2⟩ := Option.map_eq_some_iff.mp (boot_open e hN f w)
 obtain ⟨rfl, rfl, rfl, rfl⟩ : hh = boot_heap w.params ∧ gs = Array.mk [] ∧ d = boot_drawn ∧ k = boot_toks := by simpa using e2
 obtain ⟨s, h1, h2⟩ := Option.map_eq_some_iff.mp (h w os)
 have h3 := K43.Qe7 _ _ _ _ _ _ _ h1
 have h4 := K43.Qk5 w.params
 simp only [Prod.mk.injEq] at h2 h4
 unfold openEnds
 rw [e1]
 change Option.map _ (topFrom treeTable p w N _) = _
 unfold topFrom
 dsimp only
 rw [h4.1, h4.2.1, h4.2.2]
 have h5 : SharedT.abs ⟨K43.bootT w.params, 11, (boot_heap w.params).life, Array.mk [], boot_drawn, boot_toks, os⟩ = ⟨boot_heap w.params, Array.mk [], boot_drawn, boot_toks, os⟩ := by
  unfold SharedT.abs
  rw [K43.Qns]
 rw [h5] at h3
 show ((topRun treeTable p w 11 (some (.ref 6)) N _ _).bind _).map _ = _
 rw [h3]
 dsimp only [Option.bind]
 rw [h2.1]
 show some (_, _) = _
 rw [h2.2.1, h2.2.2]
def K43.sieve {α : Type} : List α → List Bool → List α
 | a :: l, b :: m => bif b then a :: sieve l m else sieve l m
 | _, _ => []
def K43.headView : Program := { PySem.Challenge.pw_groupbooks_k43_refused_tables with main := { PySem.Challenge.pw_groupbooks_k43_refused_tables.main with
 body := K43.sieve PySem.Challenge.pw_groupbooks_k43_refused_tables.main.body [false, false, false, false, false, false, false, false, false, false, false, false, false, false, false, false, false, false, false, false, false, false, false, false, false, false, false, false, false, false, false, false, false, false, false, false, false, false, false, false, false, false, false, false, false, false, false, false, false, false, false, false, false, false, true] } }
set_option hygiene false in
local macro_rules | `(tactic| o_head $H) => `(tactic|
 refine holds_open (q := K43.headView) (loose := [PySem.Str.ofString "BooksError", PySem.Str.ofString "NoNumber", PySem.Str.ofString "NoFirm", PySem.Str.ofString "BadAmount", PySem.Str.ofString "Unheld", PySem.Str.ofString "Ringed", PySem.Str.ofString "Singular", PySem.Str.ofString "NoSister", PySem.Str.ofString "shares_of", PySem.Str.ofString "all_shares", PySem.Str.ofString "owners_of", PySem.Str.ofString "strangers_of", PySem.Str.ofString "leads_on", PySem.Str.ofString "levels_of", PySem.Str.ofString "ring_of", PySem.Str.ofString "checked", PySem.Str.ofString "divisor", PySem.Str.ofString "fraction", PySem.Str.ofString "over", PySem.Str.ofString "square_of", PySem.Str.ofString "only_at", PySem.Str.ofString "widened", PySem.Str.ofString "lean", PySem.Str.ofString "cleared", PySem.Str.ofString "first_with", PySem.Str.ofString "turned", PySem.Str.ofString "pair_of", PySem.Str.ofString "paper_of", PySem.Str.ofString "checked_paper", PySem.Str.ofString "stranger_part", PySem.Str.ofString "last_parts", PySem.Str.ofString "firm_parts", PySem.Str.ofString "_law_cell_at", PySem.Str.ofString "_law_whole", PySem.Str.ofString "_law_mix", PySem.Str.ofString "_law_names", PySem.Str.ofString "_law_people", PySem.Str.ofString "_law_shares", PySem.Str.ofString "_law_good", PySem.Str.ofString "_law_held", PySem.Str.ofString "_law_any", PySem.Str.ofString "_law_spoilt", PySem.Str.ofString "_law_ring", PySem.Str.ofString "_law_due", PySem.Str.ofString "_law_asked", PySem.Str.ofString "_law_refused", PySem.Str.ofString "_law_by_base", PySem.Str.ofString "_law_no_firms"]) (N := 20000)
  (Yf := Hook.obs $H) (Ya := Hook.val $H) (YP := Hook.says $H)
  (XP := XL K43.headView []) (Xt := fun s => xlAt K43.headView [] s && recOk (RowW.records (OpenRow.toRowW (OpenLaw.row PySem.Challenge.rw_groupbooks_k43_refused_tables))) s)
  (K43.leftAtOnce (by kernel_rfl) (fun s => by kernel_rfl) rfl (fun w os => by kernel_rfl)) (Hook.of $H) (Hook.keeps $H)
  (fun s e => xl_of s (Bool.and_eq_true_iff.mp e).1)
  XL.keeps (by rfl) (by rfl) (by rfl)
  (fun s e => recFacts_of (Bool.and_eq_true_iff.mp e).2) (by rfl) (by assumption) (by decide+kernel)
  ⟨rfl, rfl, rfl, rfl, rfl, by decide+kernel⟩ ?hw ?hc)
open_top K43.headTop for PySem.Challenge.rw_groupbooks_k43_refused_tables
end
namespace L2
open PySem PySem.Spec PyProof.Rows
abbrev Key := Sum Int Str
def keyIs : Key → Value → Bool
 | .inl k, v => Value.isInt k v
 | .inr x, v => Value.isStrOf x v
def keyH (w : World) : Key → Int
 | .inl k => hashInt k
 | .inr x => hashStr w x
theorem Qbc : ∀ {k : Key} {v : Value}, keyIs k v = true → (∃ i t, k = Sum.inl i ∧ v = Value.int i t) ∨ (∃ x t, k = Sum.inr x ∧ v = Value.str x t)
 | .inl i, v, h => by
   obtain ⟨t, e⟩ := Value.isInt_shape (k := i) (v := v) h
   exact .inl ⟨i, t, rfl, e⟩
 | .inr x, v, h => by
   obtain ⟨t, e⟩ := Value.isStrOf_shape (x := x) (v := v) h
   exact .inr ⟨x, t, rfl, e⟩
theorem Qi1 (i : Int) (t : Tok) : keyIs (.inl i) (.int i t) = true := by simp [keyIs, Value.isInt]
theorem Qi0 (x : Str) (t : Tok) : keyIs (.inr x) (.str x t) = true := by simp [keyIs, Value.isStrOf]
theorem key_ll (a b : Int) : decide ((Sum.inl a : Key) = Sum.inl b) = (a == b) := by
 by_cases e : a = b
 ·subst e; simp
 ·have h : ¬ (Sum.inl a : Key) = Sum.inl b := fun q => e (Sum.inl.inj q)
  rw [decide_eq_false h]
  exact (beq_eq_false_iff_ne.mpr e).symm
theorem key_rr (a b : Str) : decide ((Sum.inr a : Key) = Sum.inr b) = decide (a = b) := by
 by_cases e : a = b
 ·subst e; simp
 ·have h : ¬ (Sum.inr a : Key) = Sum.inr b := fun q => e (Sum.inr.inj q)
  rw [decide_eq_false h, decide_eq_false e]
theorem key_lr (a : Int) (b : Str) : decide ((Sum.inl a : Key) = Sum.inr b) = false := decide_eq_false (fun q => nomatch q)
theorem key_rl (a : Str) (b : Int) : decide ((Sum.inr a : Key) = Sum.inl b) = false := decide_eq_false (fun q => nomatch q)
def mixKind (prog : Program) (w : World) : PySem.KeyKind prog w Key where
 is := keyIs
 hash := keyH w
 inj := fun v a b ha hb => by
  rcases Qbc ha with ⟨i, t, rfl, rfl⟩ | ⟨x, t, rfl, rfl⟩
  ·rcases Qbc hb with ⟨j, u, rfl, e⟩ | ⟨y, u, rfl, e⟩
   ·injection e with e1 _; rw [e1]
   ·exact nomatch e
  ·rcases Qbc hb with ⟨j, u, rfl, e⟩ | ⟨y, u, rfl, e⟩
   ·exact nomatch e
   ·injection e with e1 _; rw [e1]
 byValue := fun k v h => by
  rcases Qbc h with ⟨i, t, rfl, rfl⟩ | ⟨x, t, rfl, rfl⟩ <;> rfl
 pyHash := fun hv h => by
  rcases Qbc hv with ⟨i, t, rfl, rfl⟩ | ⟨x, t, rfl, rfl⟩
  ·exact wpAny_pyHash_int h
  ·exact wpAny_pyHash_str h
 eqBool := fun hu hv h => by
  rcases Qbc hu with ⟨i, t, rfl, rfl⟩ | ⟨x, t, rfl, rfl⟩
  ·rcases Qbc hv with ⟨j, u, rfl, rfl⟩ | ⟨y, u, rfl, rfl⟩
   ·rw [key_ll] at h; exact wpAny_eqBool_int h
   ·rw [key_lr] at h; exact SeqAt.EqAt.int_str i t y u _ _ _ _ h
  ·rcases Qbc hv with ⟨j, u, rfl, rfl⟩ | ⟨y, u, rfl, rfl⟩
   ·rw [key_rl] at h; exact SeqAt.EqAt.str_int x t j u _ _ _ _ h
   ·rw [key_rr] at h; exact wpAny_eqBool_str h
 «strs» := fun k x t v h => by
  rcases Qbc h with ⟨i, u, rfl, e⟩ | ⟨y, u, rfl, e⟩
  ·exact nomatch e
  ·injection e with e1 _
   subst e1
   cases v <;> rfl
theorem Qf4 (prog : Program) (w : World) (i : Int) (t : Tok) : (mixKind prog w).is (.inl i) (.int i t) = true := Qi1 i t
theorem Qf3 (prog : Program) (w : World) (x : Str) (t : Tok) : (mixKind prog w).is (.inr x) (.str x t) = true := Qi0 x t
end L2
namespace L2
open PySem PySem.Spec PyProof.Rows
inductive V where
 | non | bl (b : Bool) | int (i : Int) | str (x : Str) | byt (b : Array UInt8) | flt (b : UInt64) | ref (a : Addr) | ty (n : String)
 deriving DecidableEq
def RelV : V → Value → Prop
 | .non, u => u = Value.none
 | .bl b, u => u = Value.bool b
 | .int i, u => ∃ t, u = Value.int i t
 | .str x, u => ∃ t, u = Value.str x t
 | .byt b, u => ∃ t, u = Value.bytes b t
 | .flt b, u => ∃ t, u = Value.float b t
 | .ref a, u => u = Value.ref a
 | .ty n, u => u = Value.type n
abbrev Vals : List V → List Value → Prop := Paired RelV
theorem Vals.length {xs : List V} {us : List Value} (r : Vals xs us) : xs.length = us.length := Paired.length r
theorem Vals.get : ∀ {xs : List V} {us : List Value} {i : Nat} {x : V}, Vals xs us → xs[i]? = some x → ∃ u, us[i]? = some u ∧ RelV x u
 | _, _, _, _, .nil, e => by simp at e
 | _, _, 0, _, .cons r _, e => by simp at e; subst e; exact ⟨_, rfl, r⟩
 | _, _, i + 1, x, .cons _ t, e => by
   obtain ⟨u, h1, h2⟩ := Vals.get (i := i) (x := x) t (by simpa using e)
   exact ⟨u, by simpa using h1, h2⟩
theorem Vals.set {x : V} {u : Value} (r : RelV x u) : ∀ {xs : List V} {us : List Value} (i : Nat), Vals xs us → Vals (xs.set i x) (us.set i u)
 | _, _, _, .nil => .nil
 | _, _, 0, .cons _ t => .cons r t
 | _, _, i + 1, .cons q t => .cons q (Vals.set r i t)
theorem Vals.append : ∀ {xs ys : List V} {us ws : List Value}, Vals xs us → Vals ys ws → Vals (xs ++ ys) (us ++ ws)
 | _, _, _, _, .nil, s => s
 | _, _, _, _, .cons r t, s => .cons r (Vals.append t s)
theorem Vals.take : ∀ {xs : List V} {us : List Value} (n : Nat), Vals xs us → Vals (xs.take n) (us.take n)
 | _, _, 0, _ => .nil
 | _, _, _ + 1, .nil => .nil
 | _, _, n + 1, .cons r t => .cons r (Vals.take n t)
theorem Vals.drop : ∀ {xs : List V} {us : List Value} (n : Nat), Vals xs us → Vals (xs.drop n) (us.drop n)
 | _, _, 0, r => r
 | _, _, _ + 1, .nil => .nil
 | _, _, n + 1, .cons _ t => Vals.drop n t
def RelO : Option V → Option Value → Prop
 | some v, some u => RelV v u
 | none, none => True
 | _, _ => False
def KV {κ : Type} : List (κ × V) → List (κ × Value) → Prop := Paired fun (p : κ × V) (q : κ × Value) => p.1 = q.1 ∧ RelV p.2 q.2
def kV : Key → V
 | .inl i => .int i
 | .inr x => .str x
inductive HO where
 | lst (xs : List V)
 | tup (xs : List V)
 | dK (kvs : List (Key × V)) | dT (kvs : List (List Key × V))
 | set (S : Int → Bool) (n : Nat)
 | ins (C dx : Addr) (fs : List (Str × V))
 | own (x : Addr)
 | xd (fs : List (Str × V))
 | met (f x : Addr)
 | rng (lo hi : Int)
 | frz (o : Obj) (u : HO)
 | tbl (ps : Array Value)
 | ext (φ : Heap → Prop)
abbrev Hp := Addr → Option HO
def upd (H : Hp) (a : Addr) (o : HO) : Hp := fun b => if b = a then some o else H b
theorem Qab {H : Hp} {a : Addr} {o : HO} : upd H a o a = some o := by unfold upd; rw [if_pos rfl]
theorem Qah {H : Hp} {a b : Addr} {o : HO} (h : b ≠ a) : upd H a o b = H b := by unfold upd; rw [if_neg h]
theorem Qmv {H : Hp} {a b : Addr} {o u : HO} (h : H a = some o) (h' : H b = some u) (d : o ≠ u) : a ≠ b := by
 intro e; subst e; rw [h] at h'; exact d (Option.some.inj h')
theorem Qai {H : Hp} {a b : Addr} {o : HO} (h : H a = some o) (h' : H b = none) : a ≠ b := by
 intro e; subst e; rw [h] at h'; cases h'
section
variable (P : Program) (w : World)
def ObjOk (H : Hp) (h : Heap) (a : Addr) : HO → Prop
 | .lst xs => xs.length ≤ sizeLine ∧ ∃ (its : List Value) (n : Nat), Vals xs its ∧ h.get? a = some { cls := .type "list", data := .seq its.toArray n }
 | .tup xs => xs.length ≤ sizeLine ∧ ∃ its : List Value, Vals xs its ∧ IsTup h a its.toArray
 | .dK kvs => kvs.length ≤ sizeLine ∧ (a == sysModules) = false ∧ ∃ vs, KV kvs vs ∧ h.DictOf (mixKind P w) a vs
 | .dT kvs => kvs.length ≤ sizeLine ∧ (a == sysModules) = false ∧ ∃ xs : List (List Key × Addr × Value),
  Paired (fun (p : List Key × V) (q : List Key × Addr × Value) => p.1 = q.1 ∧ H q.2.1 = some (.tup (p.1.map kV)) ∧ RelV p.2 q.2.2) kvs xs ∧
  ∃ o es ep, h.get? a = some o ∧ o.ExactDict ∧ o.data = .dict es ep ∧ es.toList = xs.map (entryOfKey (tupleKind (mixKind P w))) ∧ (xs.map (·.1)).Nodup
 | .set S n => h.SetOf (intKind P w) a S n
 | .ins C dx fs => H dx = some (.own a) ∧ fs.length ≤ 1000 ∧ dx ≠ a ∧ h.get? a = some (PySem.W.instObj C dx) ∧
  ∃ mA, h.Ns1 dx mA ∧ (∀ f, RelO (fs.lookup f) (mA f)) ∧ PySem.Within mA (fs.map (·.1))
 | .own _ => ∃ o, h.get? a = some o
 | .xd fs => ∃ mA, h.Ns1 a mA ∧ ∀ f, RelO (fs.lookup f) (mA f)
 | .rng lo hi => ∃ t u v, h.get? a = some { cls := .type "range", data := .fields #[.int lo t, .int hi u, .int 1 v] }
 | .frz o u => h.get? a = some o ∧ ObjOk H h a u
 | .tbl ps => h.get? a = some { cls := .none, data := .fields ps }
 | .met f x => h.get? a = some (PySem.W.methodObj (.ref f) (.ref x))
 | .ext φ => φ h ∧ (∃ o, h.get? a = some o) ∧ ∀ h1 h2 : Heap, φ h1 → (∀ o, h1.get? a = some o → h2.get? a = some o) → φ h2
def HOk (H : Hp) (h : Heap) : Prop := ∀ a o, H a = some o → ObjOk P w H h a o
end
section
variable {P : Program} {w : World} {H H' : Hp} {h h' : Heap} {a : Addr} {o : HO}
theorem ObjOk.lt (x : ObjOk P w H h a o) : a < h.objs.size := by
 cases o with
 | lst xs => obtain ⟨_, _, _, _, e⟩ := x; exact Heap.lt_size e
 | tup xs => obtain ⟨_, _, _, p⟩ := x; exact p.lt
 | dK kvs => obtain ⟨_, _, _, _, o, _, _, e, _⟩ := x; exact Heap.lt_size e
 | dT kvs => obtain ⟨_, _, _, _, o, _, _, e, _⟩ := x; exact Heap.lt_size e
 | set S n => obtain ⟨o, _, _, _, e, _⟩ := x; exact Heap.lt_size e
 | ins C dx fs => obtain ⟨_, _, _, e, _⟩ := x; exact Heap.lt_size e
 | own y => obtain ⟨_, e⟩ := x; exact Heap.lt_size e
 | xd fs => obtain ⟨_, ⟨_, _, _, e, _⟩, _⟩ := x; exact Heap.lt_size e
 | rng lo hi => obtain ⟨_, _, _, e⟩ := x; exact Heap.lt_size e
 | frz ob u => obtain ⟨e, _⟩ := x; exact Heap.lt_size e
 | tbl ps => exact Heap.lt_size (show h.get? a = some _ from x)
 | met f y => exact Heap.lt_size (show h.get? a = some _ from x)
 | ext φ => obtain ⟨_, ⟨_, e⟩, _⟩ := x; exact Heap.lt_size e
theorem Paired.mapP {α β : Type} {F G : α → β → Prop} : ∀ {l₁ : List α} {l₂ : List β}, Paired F l₁ l₂ → (∀ a b, F a b → G a b) → Paired G l₁ l₂
 | _, _, .nil, _ => .nil
 | _, _, .cons r t, f => .cons (f _ _ r) (Paired.mapP t f)
theorem ObjOk.stay (x : ObjOk P w H h a o) (k : ∀ b u, (b = a ∨ H b = some (.own a)) → h.get? b = some u → h'.get? b = some u)
 (ho : ∀ b, H b = some (.own a) → H' b = some (.own a)) (ht : ∀ b xs, H b = some (.tup xs) → H' b = some (.tup xs)) : ObjOk P w H' h' a o := by
 induction o with
 | lst xs => obtain ⟨z, its, n, r, e⟩ := x; exact ⟨z, its, n, r, k _ _ (.inl rfl) e⟩
 | tup xs => obtain ⟨z, its, r, ob, e, c⟩ := x; exact ⟨z, its, r, ob, k _ _ (.inl rfl) e, c⟩
 | dK kvs => obtain ⟨z, y, vs, r, ob, es, ep, e, c⟩ := x; exact ⟨z, y, vs, r, ob, es, ep, k _ _ (.inl rfl) e, c⟩
 | dT kvs =>
   obtain ⟨z, y, xs, r, ob, es, ep, e, c⟩ := x
   exact ⟨z, y, xs, Paired.mapP r fun p q z => ⟨z.1, ht _ _ z.2.1, z.2.2⟩, ob, es, ep, k _ _ (.inl rfl) e, c⟩
 | set S n => obtain ⟨ob, es, ep, t, e, c⟩ := x; exact ⟨ob, es, ep, t, k _ _ (.inl rfl) e, c⟩
 | ins C dx fs =>
   obtain ⟨d, z, ne, e, mA, ⟨od, es, ep, e2, c⟩, r⟩ := x
   exact ⟨ho _ d, z, ne, k _ _ (.inl rfl) e, mA, ⟨od, es, ep, k _ _ (.inr d) e2, c⟩, r⟩
 | own y => obtain ⟨ob, e⟩ := x; exact ⟨ob, k _ _ (.inl rfl) e⟩
 | xd fs => obtain ⟨mA, ⟨od, es, ep, e, c⟩, r⟩ := x; exact ⟨mA, ⟨od, es, ep, k _ _ (.inl rfl) e, c⟩, r⟩
 | rng lo hi => obtain ⟨t, u, v, e⟩ := x; exact ⟨t, u, v, k _ _ (.inl rfl) e⟩
 | frz ob u ih => obtain ⟨e, q⟩ := x; exact ⟨k _ _ (.inl rfl) e, ih q⟩
 | tbl ps =>
   have e : h.get? a = some { cls := .none, data := .fields ps } := x
   show h'.get? a = some { cls := .none, data := .fields ps }
   exact k a _ (.inl rfl) e
 | met f y =>
   have e : h.get? a = some (PySem.W.methodObj (.ref f) (.ref y)) := x
   show h'.get? a = some (PySem.W.methodObj (.ref f) (.ref y))
   exact k a _ (.inl rfl) e
 | ext φ => obtain ⟨p, ⟨o, e⟩, st⟩ := x; exact ⟨st _ _ p fun o q => k _ _ (.inl rfl) q, ⟨o, k _ _ (.inl rfl) e⟩, st⟩
theorem HOk.lt (x : HOk P w H h) (e : H a = some o) : a < h.objs.size := (x a o e).lt
theorem HOk.fresh (x : HOk P w H h) (e : h.objs.size ≤ a) : H a = none := by
 cases q : H a with
 | none => rfl
 | some u => exact absurd (Nat.lt_of_lt_of_le (x.lt q) e) (Nat.lt_irrefl _)
theorem HOk.kept (x : HOk P w H h) (k : ∀ b u, h.get? b = some u → h'.get? b = some u) : HOk P w H h' := fun a o e =>
 (x a o e).stay (fun b u _ q => k b u q) (fun _ q => q) fun _ _ q => q
theorem HOk.laid (x : HOk P w H h) (k : ∀ b u, h.get? b = some u → h'.get? b = some u) (hp : h.objs.size ≤ a) (new : ObjOk P w (upd H a o) h' a o) : HOk P w (upd H a o) h' := fun b u e => by
 have hn := x.fresh hp
 by_cases hb : b = a
 ·subst hb; rw [Qab] at e; cases e; exact new
 ·rw [Qah hb] at e
  exact (x b u e).stay (fun c v _ q => k c v q) (fun c q => by rw [Qah (Qai q hn)]; exact q) fun c xs q => by rw [Qah (Qai q hn)]; exact q
end
def Rd (H : Hp) (a : Addr) (u : HO) : Prop := H a = some u ∨ ∃ o, H a = some (.frz o u)
theorem Rd.of {H : Hp} {a : Addr} {u : HO} (h : H a = some u) : Rd H a u := .inl h
theorem Rd.ok {P : Program} {w : World} {H : Hp} {h : Heap} {a : Addr} {u : HO} (r : Rd H a u) (x : HOk P w H h) : ObjOk P w H h a u := by
 rcases r with r | ⟨o, r⟩
 ·exact x a u r
 ·obtain ⟨_, q⟩ := x a _ r
  exact q
def Mut : Option HO → Prop
 | some (.lst _) => True
 | some (.dK _) => True
 | some (.dT _) => True
 | some (.set _ _) => True
 | some (.ins _ _ _) => True
 | some (.ext _) => True
 | _ => False
section
variable {P : Program} {w : World} {H : Hp} {h h' : Heap} {x e : Addr} {o' : HO}
theorem HOk.write (ok : HOk P w H h) (mu : Mut (H x)) (he : e = x ∨ H e = some (.own x)) (k : ∀ b u, b ≠ e → h.get? b = some u → h'.get? b = some u) (heo : ∃ u, h'.get? e = some u)
 (new : ObjOk P w (upd H x o') h' x o') : HOk P w (upd H x o') h' := fun b u q => by
 have nown : ∀ c y, H c = some (.own y) → c ≠ x := fun c y r z => by subst z; rw [r] at mu; exact mu
 have ntup : ∀ c xs, H c = some (.tup xs) → c ≠ x := fun c xs r z => by subst z; rw [r] at mu; exact mu
 by_cases hb : b = x
 ·subst hb; rw [Qab] at q; cases q; exact new
 ·rw [Qah hb] at q
  by_cases hbe : b = e
  ·have q' : H b = some (.own x) := by
    rcases he with z | z
    ·exact absurd (hbe.trans z) hb
    ·rw [hbe]; exact z
   rw [q] at q'; cases q'
   obtain ⟨v, hv⟩ := heo
   exact ⟨v, by rw [hbe]; exact hv⟩
  ·refine (ok b u q).stay (fun c v hc r => k c v ?_ r) (fun c r => by rw [Qah (nown c b r)]; exact r) fun c xs r => by rw [Qah (ntup c xs r)]; exact r
   rcases hc with rfl | hc
   ·exact hbe
   ·rintro rfl
    rcases he with z | z
    ·exact nown c b hc z
    ·rw [hc] at z; cases z; exact hb rfl
end
structure Un (fs ex : List Addr) (H H' : Hp) (h h' : Heap) : Prop where
 keep : ∀ b o, h.get? b = some o → H b = none → b ∉ fs → b ∉ ex → h'.get? b = some o
 slot : ∀ b o, h.get? b = some o → H b = none → b ∈ fs → b ∉ ex → ∃ sl, h'.get? b = some { o with slots := sl }
 free : ∀ b o, h.get? b = some o → H b = none → b ∉ ex → H' b = none
 there : ∀ b o, h.get? b = some o → b ∉ ex → ∃ o', h'.get? b = some o'
 tups : ∀ b xs, H b = some (.tup xs) → H' b = some (.tup xs)
 frzs : ∀ b o u, H b = some (.frz o u) → H' b = some (.frz o u)
 tbls : ∀ b ps, H b = some (.tbl ps) → ∃ more, H' b = some (.tbl (ps ++ more))
section
variable {fs fs' ex ex' : List Addr} {H H1 H2 : Hp} {h h1 h2 h' : Heap} {a x e : Addr} {o : HO}
theorem Un.any (u : Un fs ex H H1 h h1) {b : Addr} {ob : Obj} (q : h.get? b = some ob) (n : H b = none) (hx : b ∉ ex) : ∃ sl, h1.get? b = some { ob with slots := sl } := by
 by_cases hb : b ∈ fs
 ·exact u.slot b ob q n hb hx
 ·exact ⟨ob.slots, u.keep b ob q n hb hx⟩
theorem Un.trans (a : Un fs ex H H1 h h1) (b : Un fs ex H1 H2 h1 h2) : Un fs ex H H2 h h2 where
 keep := fun c ob q n hc hx => b.keep c ob (a.keep c ob q n hc hx) (a.free c ob q n hx) hc hx
 slot := fun c ob q n hc hx => by
  obtain ⟨sl, e1⟩ := a.slot c ob q n hc hx
  obtain ⟨sl', e2⟩ := b.slot c _ e1 (a.free c ob q n hx) hc hx
  exact ⟨sl', e2⟩
 free := fun c ob q n hx => by
  obtain ⟨o', e1⟩ := a.there c ob q hx
  exact b.free c o' e1 (a.free c ob q n hx) hx
 there := fun c ob q hx => by
  obtain ⟨o', e1⟩ := a.there c ob q hx
  exact b.there c o' e1 hx
 tups := fun c xs q => b.tups c xs (a.tups c xs q)
 frzs := fun c ob xs q => b.frzs c ob xs (a.frzs c ob xs q)
 tbls := fun c ps q => by
  obtain ⟨m1, e1⟩ := a.tbls c ps q
  obtain ⟨m2, e2⟩ := b.tbls c _ e1
  exact ⟨m1 ++ m2, by rw [e2, Array.append_assoc]⟩
theorem Un.kept (k : ∀ b u, h.get? b = some u → h'.get? b = some u) : Un fs ex H H h h' :=
 ⟨fun b ob q _ _ _ => k b ob q, fun b ob q _ _ _ => ⟨ob.slots, k b ob q⟩, fun _ _ _ n _ => n, fun b ob q _ => ⟨ob, k b ob q⟩, fun _ _ q => q, fun _ _ _ q => q, fun _ ps q => ⟨#[], by rw [q]; simp⟩⟩
theorem Un.refl : Un fs ex H H h h := Un.kept fun _ _ q => q
theorem Un.laid (k : ∀ b u, h.get? b = some u → h'.get? b = some u) (hp : h.objs.size ≤ a) (hn : H a = none) : Un fs ex H (upd H a o) h h' where
 keep := fun b u q _ _ _ => k b u q
 slot := fun b u q _ _ _ => ⟨u.slots, k b u q⟩
 free := fun b u q n _ => by rw [Qah (Nat.ne_of_lt (Nat.lt_of_lt_of_le (Heap.lt_size q) hp))]; exact n
 there := fun b u q _ => ⟨u, k b u q⟩
 tups := fun b xs q => by rw [Qah (Qai q hn)]; exact q
 frzs := fun b u xs q => by rw [Qah (Qai q hn)]; exact q
 tbls := fun b ps q => ⟨#[], by rw [Qah (Qai q hn), q]; simp⟩
theorem Un.write (mu : Mut (H x)) (he : e = x ∨ H e = some (.own x)) (k : ∀ b u, b ≠ e → h.get? b = some u → h'.get? b = some u) (heo : ∃ u, h'.get? e = some u) : Un fs ex H (upd H x o) h h' := by
 have hx : ∀ b, H b = none → b ≠ x := fun b n z => by subst z; rw [n] at mu; exact mu
 have hb : ∀ b, H b = none → b ≠ e := fun b n z => by
  subst z
  rcases he with r | r
  ·exact hx b n r
  ·rw [n] at r; cases r
 have hm : ∀ b u, H b = some u → ¬ Mut (some u) → b ≠ x := fun b u q nm z => by subst z; rw [q] at mu; exact nm mu
 refine ⟨fun b u q n _ _ => k b u (hb b n) q, fun b u q n _ _ => ⟨u.slots, k b u (hb b n) q⟩, fun b u q n _ => by rw [Qah (hx b n)]; exact n, fun b u q _ => ?_,
  fun b xs q => by rw [Qah (hm b _ q fun z => z)]; exact q, fun b u xs q => by rw [Qah (hm b _ q fun z => z)]; exact q, fun b ps q => ⟨#[], by rw [Qah (hm b _ q fun z => z), q]; simp⟩⟩
 by_cases hbe : b = e
 ·subst hbe; exact heo
 ·exact ⟨u, k b u hbe q⟩
end
def trk (h : Heap) (H : Hp) : List Addr := (List.range h.objs.size).filter fun a => (H a).isSome
def hidT (h : Heap) (H : Hp) : Heap := PySem.W.hideAll h (trk h H)
theorem Qjb (h : Heap) (H : Hp) : (hidT h H).objs.size = h.objs.size := PySem.W.hideAll_size _ _
theorem Qkw {h : Heap} {H : Hp} {b : Addr} {o : Obj} (e : h.get? b = some o) (n : H b = none) : (hidT h H).get? b = some o :=
 PySem.W.hideAll_get _ e fun hm => by
  have q : (H b).isSome = true := (List.mem_filter.mp hm).2
  rw [n] at q; simp at q
theorem Qms {h : Heap} {H : Hp} {b : Addr} {o : Obj} (e : (hidT h H).get? b = some o) : h.get? b = some o ∧ H b = none := by
 have e' : h.get? b = some o := PySem.W.of_hideAll (trk h H) e
 refine ⟨e', ?_⟩
 cases q : H b with
 | none => rfl
 | some x =>
   have hm : b ∈ trk h H := List.mem_filter.mpr ⟨List.mem_range.mpr (Heap.lt_size e'), by simp [q]⟩
   have z : (hidT h H).get? b = none := PySem.W.hideAll_none (trk h H) hm
   rw [z] at e; cases e
end L2
namespace L2
open PySem PySem.Spec PyProof.Rows
structure Mod (K : Q4) (mg : Str → Option Value) (base : Heap) : Prop where
 kin : K.In base
 glob : base.Ns mainGlobals mg
 blt : ∃ mb, base.Ns builtinsNs mb ∧ ∀ x : Str, x ≠ "__name__" → mb x = bootBuiltins x
 nolimit : base.NoLimit
structure Cx where
 prog : Program
 w : World
 K : PySem.W.Frag
 mg : Str → Option Value
 base : Heap
 A : Around
 N : List Str
 s₀ : Shared
 H₀ : Hp
 env : Env
 outer : List Env
 stack : List Env
 ex : List Addr
 fn : Str → Bool
 calm : Bool
 pn : List (Addr × Obj)
 xe : Value → Shared → Prop
def frs (l : List Env) : List Addr := l.filterMap (·.frame)
abbrev Cx.fs (X : Cx) : List Addr := frs X.outer
def Vis (sc : Scope) (x : Str) : Prop := sc.names.lookup x = some .local ∨ sc.names.lookup x = some .cell ∨ sc.names.lookup x = some .free
def Loc (sc : Scope) (x : Str) : Prop := sc.names.lookup x = some .local ∨ sc.names.lookup x = some .cell
def Look (env : Env) (h : Heap) (m : Str → Option Value) (x : Str) (u : Value) : Prop :=
 (env.kindOf x = some .local ∧ m x = some u) ∨ ((env.kindOf x = some .cell ∨ env.kindOf x = some .free) ∧ ∃ c, env.cells.lookup x = some c ∧ h.IsCell c (some u))
structure Cx.Ok (X : Cx) : Prop where
 mod : Mod X.K X.mg X.base
 kind : X.env.scope.kind = .function
 glob : X.env.globals = mainGlobals
 blt : X.env.builtins = builtinsNs
 above : X.s₀.heap.objs.size ≤ X.env.locals
 inj : ∀ x y c, X.env.cells.lookup x = some c → X.env.cells.lookup y = some c → x = y
 has : ∀ x, (X.env.kindOf x = some .cell ∨ X.env.kindOf x = some .free) → ∃ c, X.env.cells.lookup x = some c
 cab : ∀ x c, X.fn x = true → X.env.cells.lookup x = some c → X.s₀.heap.objs.size ≤ c
 hd : X.calm = true → X.A.handled = none
 frames : X.A.frames = some X.stack
 stk : X.stack = X.outer ∨ (X.stack = X.env :: X.outer ∧ X.env.frame = some X.env.locals)
 exf : ∀ b ∈ X.ex, b ≠ X.env.locals ∧ ∀ x c, X.env.cells.lookup x = some c → c ≠ b
 bs : ∀ b o, X.base.get? b = some o → X.s₀.heap.get? b = some o ∧ X.H₀ b = none
 bsz : X.base.objs.size ≤ X.s₀.heap.objs.size
 noex : ∀ b o, X.base.get? b = some o → b ∉ X.ex
 exfs : ∀ b ∈ X.ex, b ∉ X.fs
 funs : X.s₀.heap.FunFrames X.base X.outer
 frf : ∀ b ∈ X.fs, X.H₀ b = none
structure Inv (X : Cx) (pins : Q3) (σ : List (Option V)) (H : Hp) (s : Shared) : Prop where
 ok : X.Ok
 os : s.os = X.s₀.os
 bare : AllBare s.gens
 base : Un X.fs X.ex X.H₀ H X.s₀.heap s.heap
 loc : ∃ m, s.heap.Ns X.env.locals m ∧ ∀ (i : Nat) (x : Str) (v : V), X.N[i]? = some x → σ[i]? = some (some v) → Vis X.env.scope x → ∃ u, RelV v u ∧ Look X.env s.heap m x u
 cell : ∀ x c, X.env.cells.lookup x = some c → ∃ v, s.heap.IsCell c v
 free : H X.env.locals = none
 freeC : ∀ x c, X.env.cells.lookup x = some c → H c = none
 pin : ∀ p ∈ X.pn ++ pins, s.heap.get? p.1 = some p.2 ∧ H p.1 = none ∧ p.1 ≠ X.env.locals ∧ p.1 ∉ X.fs ∧ ∀ v, p.2.data ≠ .cell v
 hok : HOk X.prog X.w H s.heap
 len : σ.length = X.N.length
section
variable {X : Cx} {pins : Q3} {σ : List (Option V)} {H H' : Hp} {s : Shared} {h' : Heap}
theorem Cx.Ok.nofr (ok : X.Ok) {b : Addr} {o : Obj} (e : X.base.get? b = some o) : b ∉ X.fs := fun hb => by
 have := (ok.funs.mem hb).1
 rw [e] at this; cases this
theorem Inv.bs (I : Inv X pins σ H s) : ∀ b o, X.base.get? b = some o → s.heap.get? b = some o ∧ H b = none := fun b o e =>
 ⟨I.base.keep b o (I.ok.bs b o e).1 (I.ok.bs b o e).2 (I.ok.nofr e) (I.ok.noex b o e), I.base.free b o (I.ok.bs b o e).1 (I.ok.bs b o e).2 (I.ok.noex b o e)⟩
theorem Inv.bk (I : Inv X pins σ H s) : ∀ b o, X.base.get? b = some o → s.heap.get? b = some o := fun b o e => (I.bs b o e).1
theorem Inv.mod (I : Inv X pins σ H s) : Mod X.K X.mg X.base := I.ok.mod
theorem Inv.kIn (I : Inv X pins σ H s) : X.K.In s.heap := I.ok.mod.kin.keeps I.bk
theorem Inv.lt (I : Inv X pins σ H s) : X.env.locals < s.heap.objs.size := let ⟨_, hn, _⟩ := I.loc; hn.lt
theorem Inv.sz (I : Inv X pins σ H s) : X.s₀.heap.objs.size ≤ s.heap.objs.size := Nat.le_trans I.ok.above (Nat.le_of_lt I.lt)
theorem Inv.nofs (I : Inv X pins σ H s) {a : Addr} (h : s.heap.objs.size ≤ a) : a ∉ X.fs := fun hb => by
 obtain ⟨_, o, ho, _⟩ := I.ok.funs.mem hb
 exact absurd (Nat.lt_of_lt_of_le (Heap.lt_size ho) (Nat.le_trans I.sz h)) (Nat.lt_irrefl _)
theorem Inv.cne (I : Inv X pins σ H s) : ∀ x c, X.env.cells.lookup x = some c → c ≠ X.env.locals := fun x c e z => by
 obtain ⟨v, o, ho, hd⟩ := I.cell x c e
 obtain ⟨m, ⟨o', es, ep, ho', hd', _⟩, _⟩ := I.loc
 rw [z, ho'] at ho; cases ho; rw [hd'] at hd; cases hd
theorem Inv.funs (I : Inv X pins σ H s) : s.heap.FunFrames X.base X.outer := by
 have all : ∀ (l : List Env), (∀ b ∈ frs l, b ∈ X.fs) → X.s₀.heap.FunFrames X.base l → s.heap.FunFrames X.base l := by
  intro l
  induction l with
  | nil => intro _ _; trivial
  | cons env r ih =>
    intro hs hl
    obtain ⟨hk, ⟨L, o, hf, hn, ho, hd⟩, hr⟩ := hl
    have hL : L ∈ X.fs := hs L (by unfold frs; rw [List.filterMap_cons, hf]; exact List.mem_cons_self)
    obtain ⟨sl, e⟩ := I.base.slot L o ho (I.ok.frf L hL) hL fun z => I.ok.exfs L z hL
    exact ⟨hk, ⟨L, _, hf, hn, e, hd⟩, ih (fun b hb => hs b (by unfold frs; rw [List.filterMap_cons, hf]; exact List.mem_cons_of_mem _ hb)) hr⟩
 exact all X.outer (fun _ hb => hb) I.ok.funs
theorem Inv.stack (I : Inv X pins σ H s) : s.heap.FunFrames X.base X.stack := by
 rcases I.ok.stk with e | ⟨e, hf⟩
 ·rw [e]; exact I.funs
 ·rw [e]
  obtain ⟨m, hn, _⟩ := I.loc
  refine .cons (by rw [I.ok.kind]; decide) hf hn ?_ I.funs
  exact Heap.get?_none_of_le (Nat.le_trans I.ok.bsz I.ok.above)
theorem Inv.stkSub (I : Inv X pins σ H s) : ∀ b ∈ frs X.stack, b ∈ X.env.locals :: X.fs := fun b hb => by
 rcases I.ok.stk with e | ⟨e, hf⟩
 ·rw [e] at hb; exact List.mem_cons_of_mem _ hb
 ·rw [e] at hb
  unfold frs at hb
  rw [List.filterMap_cons, hf] at hb
  exact hb
theorem Inv.stkFree (I : Inv X pins σ H s) : ∀ b ∈ frs X.stack, H b = none := fun b hb => by
 rcases List.mem_cons.mp (I.stkSub b hb) with e | hb
 ·rw [e]; exact I.free
 ·obtain ⟨_, o, ho, _⟩ := I.ok.funs.mem hb
  exact I.base.free b o ho (I.ok.frf b hb) fun z => I.ok.exfs b z hb
theorem Inv.step {g' : Array GenState} {t' : Nat} {d' : Drawn} {ch : List Addr} (I : Inv X pins σ H s)
 (hch : ∀ b ∈ ch, (b ∈ X.ex ∨ X.s₀.heap.objs.size ≤ b) ∧ b ≠ X.env.locals ∧ (∀ x c, X.env.cells.lookup x = some c → c ≠ b) ∧ ∀ p ∈ X.pn ++ pins, p.1 ≠ b)
 (keep : ∀ b o, b ≠ X.env.locals → b ∉ X.fs → b ∉ ch → s.heap.get? b = some o → H b = none → h'.get? b = some o)
 (slot : ∀ b o, b ≠ X.env.locals → b ∈ X.fs → b ∉ ch → s.heap.get? b = some o → H b = none → ∃ sl, h'.get? b = some { o with slots := sl }) (free : ∀ b o, b ∉ ch → s.heap.get? b = some o → H b = none → H' b = none)
 (there : ∀ b o, b ∉ ch → s.heap.get? b = some o → ∃ o', h'.get? b = some o')
 (tups : ∀ b xs, H b = some (.tup xs) → H' b = some (.tup xs)) (frzs : ∀ b o u, H b = some (.frz o u) → H' b = some (.frz o u)) (tbls : ∀ b ps, H b = some (.tbl ps) → ∃ more, H' b = some (.tbl (ps ++ more)))
 (ns : ∀ m, s.heap.Ns X.env.locals m → h'.Ns X.env.locals m) (hok : HOk X.prog X.w H' h') (hg : AllBare g') :
 Inv X pins σ H' { s with heap := h', gens := g', drawn := d', toks := t' } := by
 have neL : ∀ b o, X.s₀.heap.get? b = some o → b ≠ X.env.locals := fun b o e => Nat.ne_of_lt (Nat.lt_of_lt_of_le (Heap.lt_size e) I.ok.above)
 have neC : ∀ b o, X.s₀.heap.get? b = some o → b ∉ X.ex → b ∉ ch := fun b o e hx hb => by
  rcases (hch b hb).1 with z | z
  ·exact hx z
  ·exact absurd (Nat.lt_of_lt_of_le (Heap.lt_size e) z) (Nat.lt_irrefl _)
 have cellK : ∀ x c, X.env.cells.lookup x = some c → ∀ v, s.heap.IsCell c v → h'.IsCell c v := fun x c e v ⟨o, ho, hd⟩ => by
  have nch : c ∉ ch := fun z => (hch c z).2.2.1 x c e rfl
  by_cases hc : c ∈ X.fs
  ·obtain ⟨sl, q⟩ := slot c o (I.cne x c e) hc nch ho (I.freeC x c e)
   exact ⟨_, q, hd⟩
  ·exact ⟨o, keep c o (I.cne x c e) hc nch ho (I.freeC x c e), hd⟩
 refine ⟨I.ok, I.os, hg, ⟨fun b o e n hb hx => ?_, fun b o e n hb hx => ?_, fun b o e n hx => ?_, fun b o e hx => ?_, fun b xs e => tups b xs (I.base.tups b xs e), fun b o xs e => frzs b o xs (I.base.frzs b o xs e), fun b ps e => ?_⟩, ?_, fun x c e => ?_, ?_, fun x c e => ?_, fun p hp => ?_, hok, I.len⟩
 ·exact keep b o (neL b o e) hb (neC b o e hx) (I.base.keep b o e n hb hx) (I.base.free b o e n hx)
 ·obtain ⟨sl, e1⟩ := I.base.slot b o e n hb hx
  obtain ⟨sl', e2⟩ := slot b _ (neL b o e) hb (neC b o e hx) e1 (I.base.free b o e n hx)
  exact ⟨sl', e2⟩
 ·obtain ⟨o', e1⟩ := I.base.there b o e hx
  exact free b o' (neC b o e hx) e1 (I.base.free b o e n hx)
 ·obtain ⟨o', e1⟩ := I.base.there b o e hx
  exact there b o' (neC b o e hx) e1
 ·obtain ⟨m1, e1⟩ := I.base.tbls b ps e
  obtain ⟨m2, e2⟩ := tbls b _ e1
  exact ⟨m1 ++ m2, by rw [e2, Array.append_assoc]⟩
 ·obtain ⟨m, hn, hl⟩ := I.loc
  refine ⟨m, ns m hn, fun i x v e1 e2 e3 => ?_⟩
  obtain ⟨u, r, l⟩ := hl i x v e1 e2 e3
  refine ⟨u, r, ?_⟩
  rcases l with l | ⟨k, c, e, z⟩
  ·exact .inl l
  ·exact .inr ⟨k, c, e, cellK x c e _ z⟩
 ·obtain ⟨v, z⟩ := I.cell x c e
  exact ⟨v, cellK x c e v z⟩
 ·obtain ⟨m, ⟨o, _, _, ho, _⟩, _⟩ := I.loc
  exact free _ o (fun z => (hch _ z).2.1 rfl) ho I.free
 ·obtain ⟨v, o, ho, hd⟩ := I.cell x c e
  exact free c o (fun z => (hch c z).2.2.1 x c e rfl) ho (I.freeC x c e)
 ·obtain ⟨e, n, ne, nf, d⟩ := I.pin p hp
  have nch : p.1 ∉ ch := fun z => (hch p.1 z).2.2.2 p hp rfl
  exact ⟨keep p.1 p.2 ne nf nch e n, free p.1 p.2 nch e n, ne, nf, d⟩
theorem Inv.un {t' : Nat} (I : Inv X pins σ H s) (u : Un X.fs [] H H' s.heap h') (hok : HOk X.prog X.w H' h') : Inv X pins σ H' { s with heap := h', toks := t' } := by
 obtain ⟨m, ⟨o, es, ep, ho, r⟩, _⟩ := id I.loc
 obtain ⟨sl, hL⟩ := u.any ho I.free (by simp)
 exact I.step (g' := s.gens) (d' := s.drawn) (ch := []) (fun _ z => nomatch z) (fun b o _ hb _ e n => u.keep b o e n hb (by simp)) (fun b o _ hb _ e n => u.slot b o e n hb (by simp)) (fun b o _ e n => u.free b o e n (by simp)) (fun b o _ e => u.there b o e (by simp)) u.tups u.frzs u.tbls (fun m' hm => by
  obtain ⟨o', es', ep', ho', r'⟩ := hm
  rw [ho] at ho'; cases ho'
  exact ⟨_, es', ep', hL, r'⟩) hok I.bare
theorem Inv.call {g' : Array GenState} {t' : Nat} {d' : Drawn} {ch : List Addr} (I : Inv X pins σ H s) (u : Un (frs X.stack) ch H H' s.heap h') (hok : HOk X.prog X.w H' h') (hg : AllBare g')
 (hch : ∀ b ∈ ch, (b ∈ X.ex ∨ X.s₀.heap.objs.size ≤ b) ∧ b ≠ X.env.locals ∧ (∀ x c, X.env.cells.lookup x = some c → c ≠ b) ∧ ∀ p ∈ X.pn ++ pins, p.1 ≠ b) :
 Inv X pins σ H' { s with heap := h', gens := g', drawn := d', toks := t' } := by
 obtain ⟨m, ⟨o, es, ep, ho, r⟩, _⟩ := id I.loc
 obtain ⟨sl, hL⟩ := u.any ho I.free fun z => (hch _ z).2.1 rfl
 exact I.step (ch := ch) hch (fun b o hL hb hc e n => u.keep b o e n (fun z => (List.mem_cons.mp (I.stkSub b z)).elim hL hb) hc) (fun b o _ _ hc e n => u.any e n hc) (fun b o hc e n => u.free b o e n hc) (fun b o hc e => u.there b o e hc) u.tups u.frzs u.tbls (fun m' hm => by
  obtain ⟨o', es', ep', ho', r'⟩ := hm
  rw [ho] at ho'; cases ho'
  exact ⟨_, es', ep', hL, r'⟩) hok hg
theorem Inv.turned {t' : Nat} {it : Addr} (I : Inv X pins σ H s) (k : ∀ b o, b ≠ it → s.heap.get? b = some o → h'.get? b = some o) (hn : H it = none) (hL : it ≠ X.env.locals)
 (h1 : it ∈ X.ex ∨ X.s₀.heap.objs.size ≤ it) (h2 : ∀ x c, X.env.cells.lookup x = some c → c ≠ it) (h3 : ∀ p ∈ X.pn ++ pins, p.1 ≠ it) : Inv X pins σ H { s with heap := h', toks := t' } := by
 have nit : ∀ b u, H b = some u → b ≠ it := fun b u e z => by rw [z, hn] at e; cases e
 refine I.step (g' := s.gens) (d' := s.drawn) (ch := [it]) (fun b hb => ?_) (fun b o _ _ hc e _ => k b o (fun z => hc (by simp [z])) e) (fun b o _ _ hc e _ => ⟨o.slots, k b o (fun z => hc (by simp [z])) e⟩) (fun _ _ _ _ n => n)
  (fun b o hc e => ⟨o, k b o (fun z => hc (by simp [z])) e⟩) (fun _ _ e => e) (fun _ _ _ e => e) (fun b ps e => ⟨#[], by rw [e]; simp⟩) (fun m hm => ?_) (fun b u e => ?_) I.bare
 ·have e : b = it := by simpa using hb
  subst e
  exact ⟨h1, hL, h2, h3⟩
 ·obtain ⟨o, es, ep, ho, r⟩ := hm
  exact ⟨o, es, ep, k _ o (Ne.symm hL) ho, r⟩
 ·refine (I.hok b u e).stay (fun c v hc q => k c v ?_ q) (fun _ q => q) fun _ _ q => q
  rcases hc with z | z
  ·rw [z]; exact nit b u e
  ·exact nit c _ z
theorem Inv.tok (I : Inv X pins σ H s) (t : Nat) : Inv X pins σ H { s with toks := t } := I.un (h' := s.heap) (t' := t) Un.refl I.hok
theorem Inv.kept {t' : Nat} (I : Inv X pins σ H s) (k : ∀ b u, s.heap.get? b = some u → h'.get? b = some u) : Inv X pins σ H { s with heap := h', toks := t' } := I.un (Un.kept k) (I.hok.kept k)
theorem Inv.laid {a : Addr} {o : HO} {t' : Nat} (I : Inv X pins σ H s) (k : ∀ b u, s.heap.get? b = some u → h'.get? b = some u) (hp : s.heap.objs.size ≤ a) (new : ObjOk X.prog X.w (upd H a o) h' a o) :
 Inv X pins σ (upd H a o) { s with heap := h', toks := t' } := I.un (Un.laid k hp (I.hok.fresh hp)) (I.hok.laid k hp new)
theorem Inv.write {x e : Addr} {o : HO} {t' : Nat} (I : Inv X pins σ H s) (mu : Mut (H x)) (he : e = x ∨ H e = some (.own x)) (k : ∀ b u, b ≠ e → s.heap.get? b = some u → h'.get? b = some u) (heo : ∃ u, h'.get? e = some u)
 (new : ObjOk X.prog X.w (upd H x o) h' x o) : Inv X pins σ (upd H x o) { s with heap := h', toks := t' } := I.un (Un.write mu he k heo) (I.hok.write mu he k heo new)
theorem Inv.Qcl {pins' : Q3} (I : Inv X pins σ H s) (h : ∀ p ∈ pins', s.heap.get? p.1 = some p.2 ∧ H p.1 = none ∧ p.1 ≠ X.env.locals ∧ p.1 ∉ X.fs ∧ ∀ v, p.2.data ≠ .cell v) : Inv X pins' σ H s :=
 ⟨I.ok, I.os, I.bare, I.base, I.loc, I.cell, I.free, I.freeC, fun p hp => (List.mem_append.mp hp).elim (fun z => I.pin p (List.mem_append_left _ z)) (h p), I.hok, I.len⟩
theorem Qer {N : List Str} (hN : N.Nodup) {i j : Nat} {x : Str} (a : N[i]? = some x) (b : N[j]? = some x) : i = j := by
 obtain ⟨h1, e1⟩ := List.getElem?_eq_some_iff.mp a
 obtain ⟨h2, e2⟩ := List.getElem?_eq_some_iff.mp b
 exact (List.getElem_inj hN).mp (e1.trans e2.symm)
theorem Qh2 {M : Model} {A : Around} {E : Q0} {i : Nat} {x : Str} {v : V} {u : Value} {Q : Unit → Shared → Prop} (I : Inv X pins σ H s) (hN : X.N.Nodup) (hi : X.N[i]? = some x) (hx : Loc X.env.scope x) (r : RelV v u)
 (h : ∀ s', Inv X pins (σ.set i (some v)) H s' → (∃ a, Heap.SameBut a s.heap s'.heap ∧ (a = X.env.locals ∨ X.env.cells.lookup x = some a)) → Q () s') (hf : X.fn x = true ∨ X.env.scope.names.lookup x = some .local := by first | exact .inl rfl | exact .inr rfl | assumption) : wpAny M A (storeName X.env x u) Q E s := by
 obtain ⟨m, hn, hl⟩ := id I.loc
 have hcls : (X.env.scope.kind == .class || (X.env.scope.kind == .module && X.env.locals != X.env.globals)) = false := by rw [I.ok.kind]; rfl
 have hiσ : i < σ.length := by rw [I.len]; exact (List.getElem?_eq_some_iff.mp hi).1
 have cne := I.cne
 have tracked : ∀ {a : Addr} {h' : Heap}, (∃ o, s.heap.get? a = some o ∧ H a = none) → Heap.SameBut a s.heap h' → HOk X.prog X.w H h' := fun {a h'} ha hs b ob e => by
  obtain ⟨_, _, hfree⟩ := ha
  refine (I.hok b ob e).stay (fun c w' hc q => (hs.2 c ?_).trans q) (fun _ q => q) fun _ _ q => q
  rintro rfl
  rcases hc with rfl | hc
  ·rw [hfree] at e; cases e
  ·rw [hfree] at hc; cases hc
 rcases hx with hk | hk
 ·refine wpAny_storeName_local hk hn (fun h' hn' hs => ?_) hcls
  obtain ⟨oL, _, _, hoL, _⟩ := id hn
  refine h _ ⟨I.ok, I.os, I.bare, ⟨fun b o e n hb hx => ?_, fun b o e n hb hx => ?_, I.base.free, fun b o e hx => ?_, I.base.tups, I.base.frzs, I.base.tbls⟩, ⟨_, hn', fun j y v' e1 e2 e3 => ?_⟩, fun y c e => ?_, I.free, I.freeC, fun p hp => ?_, tracked ⟨oL, hoL, I.free⟩ hs, by simpa using I.len⟩ ⟨_, hs, .inl rfl⟩
  ·exact (hs.2 b (Nat.ne_of_lt (Nat.lt_of_lt_of_le (Heap.lt_size e) I.ok.above))).trans (I.base.keep b o e n hb hx)
  ·obtain ⟨sl, e1⟩ := I.base.slot b o e n hb hx
   exact ⟨sl, (hs.2 b (Nat.ne_of_lt (Nat.lt_of_lt_of_le (Heap.lt_size e) I.ok.above))).trans e1⟩
  ·obtain ⟨o', e1⟩ := I.base.there b o e hx
   exact ⟨o', (hs.2 b (Nat.ne_of_lt (Nat.lt_of_lt_of_le (Heap.lt_size e) I.ok.above))).trans e1⟩
  ·by_cases hj : j = i
   ·subst hj
    rw [hi] at e1; cases e1
    rw [List.getElem?_set_self hiσ] at e2
    cases e2
    exact ⟨u, r, .inl ⟨hk, by simp⟩⟩
   ·rw [List.getElem?_set_ne (Ne.symm hj)] at e2
    obtain ⟨u', r', q⟩ := hl j y v' e1 e2 e3
    refine ⟨u', r', ?_⟩
    rcases q with ⟨k, e⟩ | ⟨k, c, e, z⟩
    ·refine .inl ⟨k, ?_⟩
     have : y ≠ x := fun e => hj (Qer hN e1 (e ▸ hi))
     simp [this, e]
    ·exact .inr ⟨k, c, e, z.sameBut hs (cne y c e)⟩
  ·obtain ⟨w', z⟩ := I.cell y c e
   exact ⟨w', z.sameBut hs (cne y c e)⟩
  ·obtain ⟨e, n, ne, nf, d⟩ := I.pin p hp
   exact ⟨(hs.2 p.1 ne).trans e, n, ne, nf, d⟩
 ·have hfn : X.fn x = true := by
   rcases hf with z | z
   ·exact z
   ·rw [z] at hk; cases hk
  obtain ⟨c, hc⟩ := I.ok.has x (.inl hk)
  obtain ⟨w', z⟩ := I.cell x c hc
  refine wpAny_storeName_cell I.ok.kind hk hc z (fun h' hc' hs => ?_)
  obtain ⟨oc, hoc, hocd⟩ := id z
  refine h { s with heap := h' } ⟨I.ok, I.os, I.bare, ⟨fun b o e n hb hx => ?_, fun b o e n hb hx => ?_, I.base.free, fun b o e hx => ?_, I.base.tups, I.base.frzs, I.base.tbls⟩, ⟨m, hn.sameBut hs (Ne.symm (cne x c hc)), fun j y v' e1 e2 e3 => ?_⟩, fun y c' e => ?_, I.free, I.freeC, fun p hp => ?_, tracked ⟨oc, hoc, I.freeC x c hc⟩ hs, by simpa using I.len⟩ ⟨c, hs, .inr hc⟩
  ·exact (hs.2 b (Nat.ne_of_lt (Nat.lt_of_lt_of_le (Heap.lt_size e) (I.ok.cab x c hfn hc)))).trans (I.base.keep b o e n hb hx)
  ·obtain ⟨sl, e1⟩ := I.base.slot b o e n hb hx
   exact ⟨sl, (hs.2 b (Nat.ne_of_lt (Nat.lt_of_lt_of_le (Heap.lt_size e) (I.ok.cab x c hfn hc)))).trans e1⟩
  ·obtain ⟨o', e1⟩ := I.base.there b o e hx
   exact ⟨o', (hs.2 b (Nat.ne_of_lt (Nat.lt_of_lt_of_le (Heap.lt_size e) (I.ok.cab x c hfn hc)))).trans e1⟩
  ·by_cases hj : j = i
   ·subst hj
    rw [hi] at e1; cases e1
    rw [List.getElem?_set_self hiσ] at e2
    cases e2
    exact ⟨u, r, .inr ⟨.inl hk, c, hc, hc'⟩⟩
   ·rw [List.getElem?_set_ne (Ne.symm hj)] at e2
    obtain ⟨u', r', q⟩ := hl j y v' e1 e2 e3
    refine ⟨u', r', ?_⟩
    rcases q with q | ⟨k, c', e, z'⟩
    ·exact .inl q
    ·refine .inr ⟨k, c', e, z'.sameBut hs ?_⟩
     rintro rfl
     exact hj (Qer hN e1 (I.ok.inj _ _ _ e hc ▸ hi))
  ·by_cases hcc : c' = c
   ·subst hcc; exact ⟨_, hc'⟩
   ·obtain ⟨w2, z2⟩ := I.cell y c' e
    exact ⟨w2, z2.sameBut hs hcc⟩
  ·obtain ⟨e, n, ne, nf, d⟩ := I.pin p hp
   refine ⟨(hs.2 p.1 ?_).trans e, n, ne, nf, d⟩
   intro q
   rw [q, hoc] at e
   have q' : oc = p.2 := Option.some.inj e
   exact d w' (by rw [← q']; exact hocd)
theorem Qdm {M : Model} {A : Around} {E : Q0} {i : Nat} {x : Str} {v : V} {u : Value} {Q : Unit → Shared → Prop} (I : Inv X pins σ H s) (hN : X.N.Nodup) (hi : X.N[i]? = some x) (hx : Loc X.env.scope x) (r : RelV v u)
 (h : ∀ s', Inv X pins (σ.set i (some v)) H s' → Q () s') (hf : X.fn x = true ∨ X.env.scope.names.lookup x = some .local := by first | exact .inl rfl | exact .inr rfl | assumption) : wpAny M A (storeName X.env x u) Q E s :=
 Qh2 I hN hi hx r (fun s' I' _ => h s' I') hf
theorem Inv.call' {s' : Shared} {ch : List Addr} (I : Inv X pins σ H s) (ho : s'.os = s.os) (u : Un (frs X.stack) ch H H' s.heap s'.heap) (hok : HOk X.prog X.w H' s'.heap) (hg : AllBare s'.gens)
 (hch : ∀ b ∈ ch, (b ∈ X.ex ∨ X.s₀.heap.objs.size ≤ b) ∧ b ≠ X.env.locals ∧ (∀ x c, X.env.cells.lookup x = some c → c ≠ b) ∧ ∀ p ∈ X.pn ++ pins, p.1 ≠ b) : Inv X pins σ H' s' := by
 obtain ⟨h', g', d', t', o'⟩ := s'
 have e : o' = s.os := ho
 subst e
 exact I.call (g' := g') (t' := t') (d' := d') u hok hg hch
end
abbrev XK := Value → Option Addr → Hp → Prop
abbrev St := List (Option V)
abbrev VK := V → Hp → Prop
abbrev TE := St → Hp → VK → Prop
abbrev TT := St → Hp → (Bool → Hp → Prop) → Prop
abbrev TA := St → Hp → (List V → Hp → Prop) → Prop
structure Ends where
 nx : St → Hp → Prop
 rt : VK
 bk : St → Hp → Prop := fun _ _ => False
 ct : St → Hp → Prop := fun _ _ => False
abbrev TS := Ends → St → Hp → Prop
def EP (X : Cx) (pins : Q3) (σ : St) (Q : VK) (u : Value) (s' : Shared) : Prop := ∃ v H', Inv X pins σ H' s' ∧ RelV v u ∧ Q v H'
def TP (X : Cx) (pins : Q3) (σ : St) (Q : Bool → Hp → Prop) (b : Bool) (s' : Shared) : Prop := ∃ H', Inv X pins σ H' s' ∧ Q b H'
def AP (X : Cx) (pins : Q3) (σ : St) (Q : List V → Hp → Prop) (us : List Value) (s' : Shared) : Prop := ∃ vs H', Inv X pins σ H' s' ∧ Vals vs us ∧ Q vs H'
def SP (X : Cx) (pins : Q3) (D : Ends) (f : Flow) (s' : Shared) : Prop :=
 match f with
 | .next => ∃ σ' H', Inv X pins σ' H' s' ∧ D.nx σ' H'
 | .brk => ∃ σ' H', Inv X pins σ' H' s' ∧ D.bk σ' H'
 | .cont => ∃ σ' H', Inv X pins σ' H' s' ∧ D.ct σ' H'
 | .ret u => ∃ v σ' H', Inv X pins σ' H' s' ∧ RelV v u ∧ D.rt v H'
def PE (X : Cx) (e : Expr) (t : TE) : Prop :=
 ∀ (pins : Q3) (s : Shared) (σ : St) (H : Hp) (Q : VK), Inv X pins σ H s → t σ H Q → wpAny (model X.prog X.w) X.A (eval e X.env) (EP X pins σ Q) X.xe s
def PT (X : Cx) (e : Expr) (t : TT) : Prop :=
 ∀ (pins : Q3) (s : Shared) (σ : St) (H : Hp) (Q : Bool → Hp → Prop), Inv X pins σ H s → t σ H Q → wpAny (model X.prog X.w) X.A (isTrue e X.env (eval e X.env)) (TP X pins σ Q) X.xe s
def PW (X : Cx) (e : Expr) (t : TT) : Prop :=
 ∀ (whole : Sem Value) (pins : Q3) (s : Shared) (σ : St) (H : Hp) (Q : Bool → Hp → Prop), Inv X pins σ H s → t σ H Q → wpAny (model X.prog X.w) X.A (isTrue e X.env whole) (TP X pins σ Q) X.xe s
theorem PW.pt {X : Cx} {e : Expr} {t : TT} (h : PW X e t) : PT X e t := h _
def PA (X : Cx) (es : List Expr) (t : TA) : Prop :=
 ∀ (pos : Pos) (pins : Q3) (s : Shared) (σ : St) (H : Hp) (Q : List V → Hp → Prop), Inv X pins σ H s → t σ H Q → wpAny (model X.prog X.w) X.A (spliced (backTo pos (starEach es X.env))) (AP X pins σ Q) X.xe s
def PS (X : Cx) (st : Stmt) (t : TS) : Prop :=
 ∀ (pins : Q3) (s : Shared) (σ : St) (H : Hp) (D : Ends), Inv X pins σ H s → t D σ H → wpAny (model X.prog X.w) X.A (exec st X.env) (SP X pins D) X.xe s
def PSs (X : Cx) (st : List Stmt) (t : TS) : Prop :=
 ∀ (pins : Q3) (s : Shared) (σ : St) (H : Hp) (D : Ends), Inv X pins σ H s → t D σ H → wpAny (model X.prog X.w) X.A (execs st X.env) (SP X pins D) X.xe s
theorem thn {α : Type} {t : Sem α} {Q Q' : α → Shared → Prop} {M : Model} {A : Around} {E : Q0} {s : Shared} (h : wpAny M A t Q E s) (hQ : ∀ a s, Q a s → Q' a s) : wpAny M A t Q' E s := wpAny_mono h hQ fun _ _ x => x
end L2
namespace L2
open PySem PySem.Spec PyProof.Rows
section
variable {X : Cx}
def tVar (i : Nat) : TE := fun σ H Q => ∃ v, σ[i]? = some (some v) ∧ Q v H
def tC (v : V) : TE := fun _ H Q => Q v H
theorem pe_var {i : Nat} {x : Str} {pos : Pos} (hN : X.N[i]? = some x) (hv : Vis X.env.scope x) (hd : (x == ("__debug__" : Str)) = false := by decide) (hcd : (x == ("__classdict__" : Str)) = false := by decide) : PE X (.Name x pos) (tVar i) := by
 intro pins s σ H Q I h
 obtain ⟨v, e, h⟩ := h
 obtain ⟨m, hn, hl⟩ := I.loc
 obtain ⟨u, r, l⟩ := hl i x v hN e hv
 have fin : EP X pins σ Q u s := ⟨v, H, I, r, h⟩
 rcases l with ⟨hk, hm⟩ | ⟨hk, c, hc, hcell⟩
 ·exact wpAny_Name (wpAny_loadName_local I.ok.kind hk hn hm fin) hd
 ·rcases hk with hk | hk
  ·exact wpAny_Name (wpAny_loadName_cell I.ok.kind hk hc hcell fin) hd
  ·exact wpAny_Name (wpAny_loadName_free I.ok.kind hk hc hcell fin hcd) hd
theorem Qaf {i j pos} : PE X (.Constant (.int i) j pos) (tC (.int i)) := fun _ _ _ H _ I h => wpAny_Constant_int ⟨.int i, H, I.tok _, ⟨_, rfl⟩, h⟩
theorem Qhh {b j pos} : PE X (.Constant (.bool b) j pos) (tC (.bl b)) := fun _ _ _ H _ I h => Constant_bool ⟨.bl b, H, I, rfl, h⟩
theorem Qdy {j pos} : PE X (.Constant .none j pos) (tC .non) := fun _ _ _ H _ I h => Constant_none ⟨.non, H, I, rfl, h⟩
theorem Qbd {x j pos} : PE X (.Constant (.str x) j pos) (tC (.str x)) := fun _ _ _ H _ I h => Calls.Constant_str ⟨.str x, H, I.tok _, ⟨_, rfl⟩, h⟩
def Gl (X : Cx) (x : Str) : Prop := X.env.kindOf x = some .globalImplicit
theorem Qc2 {E : Q0} {pins : Q3} {s : Shared} {σ : St} {H : Hp} {x : Str} {u : Value} {pos : Pos} {Q : Q0} (I : Inv X pins σ H s) (hg : Gl X x) (hm : X.mg x = some u) (h : Q u s)
 (hd : (x == ("__debug__" : Str)) = false := by decide) : wpAny (model X.prog X.w) X.A (eval (.Name x pos) X.env) Q E s :=
 Calls.Name_function_global I.ok.kind hg (Calls.loadGlobal_global (by rw [I.ok.glob]; exact I.mod.glob.keeps I.bk) hm h) hd
theorem Qdi {E : Q0} {pins : Q3} {s : Shared} {σ : St} {H : Hp} {x : Str} {u : Value} {pos : Pos} {Q : Q0} (I : Inv X pins σ H s) (hg : Gl X x) (hm : X.mg x = none) (hv : bootBuiltins x = some u) (h : Q u s)
 (hn : x ≠ "__name__" := by decide) (hd : (x == ("__debug__" : Str)) = false := by decide) : wpAny (model X.prog X.w) X.A (eval (.Name x pos) X.env) Q E s := by
 obtain ⟨mb, h1, h2⟩ := I.mod.blt
 exact Calls.Name_function_global I.ok.kind hg (Calls.loadGlobal_builtin (by rw [I.ok.glob]; exact I.mod.glob.keeps I.bk) hm (by rw [I.ok.blt]; exact h1.keeps I.bk) ((h2 x hn).trans hv) h) hd
theorem Qdd {x : Str} {v : V} {u : Value} {pos : Pos} (hg : Gl X x) (hm : X.mg x = some u) (r : RelV v u) (hd : (x == ("__debug__" : Str)) = false := by decide) : PE X (.Name x pos) (tC v) :=
 fun _ _ _ H _ I h => Qc2 I hg hm ⟨v, H, I, r, h⟩ hd
theorem Qih {x : Str} {v : V} {u : Value} {pos : Pos} (hg : Gl X x) (hm : X.mg x = none) (hv : bootBuiltins x = some u) (r : RelV v u) (hn : x ≠ "__name__" := by decide) (hd : (x == ("__debug__" : Str)) = false := by decide) : PE X (.Name x pos) (tC v) :=
 fun _ _ _ H _ I h => Qdi I hg hm hv ⟨v, H, I, r, h⟩ hn hd
variable {a b : Expr} {ta tb : TE} {pos : Pos}
def PC (X : Cx) (op : CmpOp) (a b : Expr) (t : TE) : Prop :=
 ∀ (pins : Q3) (s : Shared) (σ : St) (H : Hp) (Q : VK), Inv X pins σ H s → t σ H Q →
   wpAny (model X.prog X.w) X.A (eval a X.env) (fun v s₁ => wpAny (model X.prog X.w) X.A (eval b X.env) (fun u s₂ => wpAny (model X.prog X.w) X.A (compareOp op v u) (EP X pins σ Q) X.xe s₂) X.xe s₁) X.xe s
def tB (t : TE) : TT := fun σ H Q => t σ H fun x H1 => ∃ c, x = .bl c ∧ Q c H1
theorem pe_cmp {op : CmpOp} {t : TE} (h : PC X op a b t) (h1 : behindInMarks op b = false := by first | exact nobehind _ (by decide) (by decide) | rfl) : PE X (.Compare a [op] [b] pos) t := fun pins s σ H Q I hw => wpAny_Compare1 (h pins s σ H Q I hw) h1
theorem Qli {op : CmpOp} {t : TE} (h : PC X op a b t) (h1 : behindInMarks op b = false := by first | exact nobehind _ (by decide) (by decide) | rfl) : PT X (.Compare a [op] [b] pos) (tB t) := by
 intro pins s σ H Q I hw
 refine wpAny_isTrue_Compare1 (thn (h pins s σ H _ I hw) fun v s1 h1 => thn h1 fun u s2 h2 => thn h2 fun c s3 ⟨x, H1, I1, r1, q1⟩ => ?_) h1
 obtain ⟨d, rfl, q⟩ := q1
 cases r1
 exact wpAny_truthy_bool ⟨H1, I1, q⟩
theorem Qfb {e : Expr} {t : TE} (h : PE X e t) (he : ∀ whole, isTrue e X.env whole = (do let v ← whole; standAt e.pos; holding [v] (truthy v)) := by intro _; rfl) : PT X e (tB t) := by
 intro pins s σ H Q I hw
 refine isTrue_plain (thn (h pins s σ H _ I hw) fun v s1 ⟨x, H1, I1, r1, q1⟩ => ?_) (he _)
 obtain ⟨d, rfl, q⟩ := q1
 cases r1
 exact wpAny_truthy_bool ⟨H1, I1, q⟩
variable {tA tB' : TT} {rest : List Expr}
def tAnd (t u : TT) : TT := fun σ H Q => t σ H fun c H1 => if c = true then u σ H1 Q else Q false H1
def tOr (t u : TT) : TT := fun σ H Q => t σ H fun c H1 => if c = true then Q true H1 else u σ H1 Q
def tNot (t : TT) : TT := fun σ H Q => t σ H fun c H1 => Q (!c) H1
theorem Qfz (ha : PT X a tA) : PW X (.BoolOp .And [a] pos) tA := by
 intro wh pins s σ H Q I h
 refine isTrue_and (thn (ha pins s σ H Q I h) fun c s1 e => ?_)
 cases c with
 | true => exact isTrue_and_nil e
 | false => exact e
theorem Qgr (ha : PT X a tA) : PW X (.BoolOp .Or [a] pos) tA := by
 intro wh pins s σ H Q I h
 refine isTrue_or (thn (ha pins s σ H Q I h) fun c s1 e => ?_)
 cases c with
 | false => exact isTrue_or_nil e
 | true => exact e
theorem Qid (ha : PT X a tA) (hb : PW X (.BoolOp .And (b :: rest) pos) tB') : PW X (.BoolOp .And (a :: b :: rest) pos) (tAnd tA tB') := by
 intro wh pins s σ H Q I h
 refine isTrue_and (thn (ha pins s σ H _ I h) fun c s1 ⟨H1, I1, q1⟩ => ?_)
 cases c with
 | true => exact hb wh pins s1 σ H1 Q I1 q1
 | false => exact ⟨H1, I1, q1⟩
theorem Qkd (ha : PT X a tA) (hb : PW X (.BoolOp .Or (b :: rest) pos) tB') : PW X (.BoolOp .Or (a :: b :: rest) pos) (tOr tA tB') := by
 intro wh pins s σ H Q I h
 refine isTrue_or (thn (ha pins s σ H _ I h) fun c s1 ⟨H1, I1, q1⟩ => ?_)
 cases c with
 | true => exact ⟨H1, I1, q1⟩
 | false => exact hb wh pins s1 σ H1 Q I1 q1
theorem Qlh (ha : PT X a tA) : PT X (.UnaryOp .Not a pos) (tNot tA) := by
 intro pins s σ H Q I h
 exact isTrue_not (ha pins s σ H (fun c H1 => Q (!c) H1) I h)
def tAndV (ta tb : TE) : TE := fun σ H Q => ta σ H fun x H1 => ∃ c, x = .bl c ∧ if c = true then tb σ H1 Q else Q (.bl false) H1
def tOrV (ta tb : TE) : TE := fun σ H Q => ta σ H fun x H1 => ∃ c, x = .bl c ∧ if c = true then Q (.bl true) H1 else tb σ H1 Q
def tNotV (ta : TE) : TE := fun σ H Q => ta σ H fun x H1 => ∃ c, x = .bl c ∧ Q (.bl (!c)) H1
theorem Qdx {op} {t : TE} (h : PE X a t) : PE X (.BoolOp op [a] pos) t := fun pins s σ H Q I hw => BoolOp_one (h pins s σ H Q I hw)
theorem Qdz (ha : PE X a ta) (hb : PE X (.BoolOp .And (b :: rest) pos) tb) : PE X (.BoolOp .And (a :: b :: rest) pos) (tAndV ta tb) := by
 intro pins s σ H Q I h
 refine BoolOp_and (thn (ha pins s σ H _ I h) fun v s1 ⟨x, H1, I1, r1, q1⟩ => ?_)
 obtain ⟨c, rfl, q1⟩ := q1
 cases r1
 refine wpAny_truthy_bool ?_
 cases c with
 | true => exact hb pins s1 σ H1 Q I1 q1
 | false => exact ⟨.bl false, H1, I1, rfl, q1⟩
theorem pe_or (ha : PE X a ta) (hb : PE X (.BoolOp .Or (b :: rest) pos) tb) : PE X (.BoolOp .Or (a :: b :: rest) pos) (tOrV ta tb) := by
 intro pins s σ H Q I h
 refine BoolOp_or (thn (ha pins s σ H _ I h) fun v s1 ⟨x, H1, I1, r1, q1⟩ => ?_)
 obtain ⟨c, rfl, q1⟩ := q1
 cases r1
 refine wpAny_truthy_bool ?_
 cases c with
 | false => exact hb pins s1 σ H1 Q I1 q1
 | true => exact ⟨.bl true, H1, I1, rfl, q1⟩
theorem Qlk (ha : PE X a ta) : PE X (.UnaryOp .Not a pos) (tNotV ta) := by
 intro pins s σ H Q I h
 refine UnaryOp_ (thn (ha pins s σ H _ I h) fun v s1 ⟨x, H1, I1, r1, q1⟩ => ?_)
 obtain ⟨c, rfl, q1⟩ := q1
 cases r1
 exact not_of (wpAny_truthy_bool ⟨.bl (!c), H1, I1, rfl, q1⟩)
def tIf (t : TT) (ta tb : TE) : TE := fun σ H Q => t σ H fun c H1 => if c = true then ta σ H1 Q else tb σ H1 Q
theorem Qgw {c : Expr} (hc : PT X c tA) (ha : PE X a ta) (hb : PE X b tb) : PE X (.IfExp c a b pos) (tIf tA ta tb) := by
 intro pins s σ H Q I h
 refine wpAny_IfExp (thn (hc pins s σ H _ I h) fun d s1 ⟨H1, I1, q1⟩ => ?_)
 cases d with
 | true => exact ha pins s1 σ H1 Q I1 q1
 | false => exact hb pins s1 σ H1 Q I1 q1
end
end L2
namespace L2
open PySem PySem.Spec PyProof.Rows
def SqL (K : Q4) (H : Hp) (a : Addr) (xs : List V) : Prop :=
 Rd H a (.lst xs) ∨
  ∃ (o : Obj) (its : Array Value) (n : Nat), K.lookup a = some o ∧ o.cls = .type "list" ∧ o.dict = none ∧ o.data = .seq its n ∧ its.size ≤ sizeLine ∧ Vals xs its.toList
def SqT (K : Q4) (H : Hp) (a : Addr) (xs : List V) : Prop :=
 Rd H a (.tup xs) ∨
  ∃ (o : Obj) (its : Array Value) (n : Nat), K.lookup a = some o ∧ o.cls = .type "tuple" ∧ o.data = .seq its n ∧ its.size ≤ sizeLine ∧ Vals xs its.toList
def absV : Value → Option V
 | .none => some .non
 | .bool b => some (.bl b)
 | .int i _ => some (.int i)
 | .str x _ => some (.str x)
 | .bytes b _ => some (.byt b)
 | .float b _ => some (.flt b)
 | .ref a => some (.ref a)
 | .type n => some (.ty n)
 | _ => none
theorem RelV.abs {x : V} {u : Value} (r : RelV x u) : absV u = some x := by
 cases x with
 | non => cases r; rfl
 | bl _ => cases r; rfl
 | int _ => obtain ⟨t, rfl⟩ := r; rfl
 | str _ => obtain ⟨t, rfl⟩ := r; rfl
 | byt _ => obtain ⟨t, rfl⟩ := r; rfl
 | flt _ => obtain ⟨t, rfl⟩ := r; rfl
 | ref _ => cases r; rfl
 | ty _ => cases r; rfl
theorem RelV.inj {x y : V} {u : Value} (r : RelV x u) (q : RelV y u) : x = y := Option.some.inj (r.abs.symm.trans q.abs)
theorem Vals.inj : ∀ {xs ys : List V} {us : List Value}, Vals xs us → Vals ys us → xs = ys
 | _, _, _, .nil, .nil => rfl
 | _, _, _, .cons r t, .cons r' t' => by rw [r.inj r', Vals.inj t t']
section
variable {X : Cx} {pins : Q3} {σ : St} {H : Hp} {s : Shared} {a : Addr} {xs ys : List V}
theorem SqL.of {K : Q4} (h : H a = some (.lst xs)) : SqL K H a xs := .inl (.inl h)
theorem SqT.of {K : Q4} (h : H a = some (.tup xs)) : SqT K H a xs := .inl (.inl h)
theorem Inv.list (I : Inv X pins σ H s) (h : SqL X.K H a xs) : ∃ its : List Value, Vals xs its ∧ PlainL s.heap a its.toArray ∧ xs.length ≤ sizeLine := by
 rcases h with h | ⟨o, its, n, hk, hc, hd, hs, hz, r⟩
 ·obtain ⟨z, its, n, r, e⟩ := h.ok I.hok
  exact ⟨its, r, ⟨_, n, e, rfl, rfl, rfl⟩, z⟩
 ·refine ⟨its.toList, r, ⟨o, n, I.kIn a o hk, hc, hd, by simpa using hs⟩, ?_⟩
  have e := r.length
  simp only [Array.length_toList] at e
  omega
theorem Inv.tuple (I : Inv X pins σ H s) (h : SqT X.K H a xs) : ∃ its : List Value, Vals xs its ∧ IsTup s.heap a its.toArray ∧ xs.length ≤ sizeLine := by
 rcases h with h | ⟨o, its, n, hk, hc, hs, hz, r⟩
 ·obtain ⟨z, its, r, p⟩ := h.ok I.hok
  exact ⟨its, r, p, z⟩
 ·refine ⟨its.toList, r, ⟨o, I.kIn a o hk, hc, n, by simpa using hs⟩, ?_⟩
  have e := r.length
  simp only [Array.length_toList] at e
  omega
theorem Inv.Qdq (I : Inv X pins σ H s) (h : SqL X.K H a xs) (h' : SqL X.K H a ys) : xs = ys := by
 obtain ⟨its, r, ⟨o, n, e, _, _, d⟩, _⟩ := I.list h
 obtain ⟨its', r', ⟨o', n', e', _, _, d'⟩, _⟩ := I.list h'
 rw [e] at e'; cases e'
 rw [d] at d'
 injection d' with d1 _
 have : its = its' := by simpa using congrArg Array.toList d1
 subst this
 exact r.inj r'
end
abbrev Cx.wish (X : Cx) (E : Q0) : Cx := { X with xe := E }
abbrev Cx.nox (X : Cx) : Cx := X.wish fun _ _ => False
theorem Cx.Ok.wish {X : Cx} (ok : X.Ok) (E : Q0) : (X.wish E).Ok :=
 ⟨ok.mod, ok.kind, ok.glob, ok.blt, ok.above, ok.inj, ok.has, ok.cab, ok.hd, ok.frames, ok.stk, ok.exf, ok.bs, ok.bsz, ok.noex, ok.exfs, ok.funs, ok.frf⟩
theorem Cx.Ok.unwish {X : Cx} {E : Q0} (ok : (X.wish E).Ok) : X.Ok :=
 ⟨ok.mod, ok.kind, ok.glob, ok.blt, ok.above, ok.inj, ok.has, ok.cab, ok.hd, ok.frames, ok.stk, ok.exf, ok.bs, ok.bsz, ok.noex, ok.exfs, ok.funs, ok.frf⟩
section
variable {X : Cx} {pins : Q3} {σ : St} {H : Hp} {s : Shared} {E : Q0}
theorem Inv.wish (I : Inv X pins σ H s) (E : Q0) : Inv (X.wish E) pins σ H s := ⟨I.ok.wish E, I.os, I.bare, I.base, I.loc, I.cell, I.free, I.freeC, I.pin, I.hok, I.len⟩
theorem Inv.unwish (I : Inv (X.wish E) pins σ H s) : Inv X pins σ H s := ⟨I.ok.unwish, I.os, I.bare, I.base, I.loc, I.cell, I.free, I.freeC, I.pin, I.hok, I.len⟩
theorem SP.unwish {D : Ends} {f : Flow} {s' : Shared} (h : SP (X.wish E) pins D f s') : SP X pins D f s' := by
 cases f with
 | next => obtain ⟨σ', H', I, q⟩ := h; exact ⟨σ', H', I.unwish, q⟩
 | brk => obtain ⟨σ', H', I, q⟩ := h; exact ⟨σ', H', I.unwish, q⟩
 | cont => obtain ⟨σ', H', I, q⟩ := h; exact ⟨σ', H', I.unwish, q⟩
 | ret u => obtain ⟨v, σ', H', I, r, q⟩ := h; exact ⟨v, σ', H', I.unwish, r, q⟩
theorem PSs.nox {st : List Stmt} {t : TS} (h : PSs X.nox st t) : PSs X st t := fun pins s σ H D I hw =>
 wpAny_mono (h pins s σ H D (I.wish _) hw) (fun _ _ q => q.unwish) fun _ _ z => False.elim z
end
section
variable {X : Cx} {st : Stmt} {rest : List Stmt} {t u : TS} {e : Expr} {te : TE} {pos : Pos}
def tNext : TS := fun D σ H => D.nx σ H
def tSeq (t u : TS) : TS := fun D σ H => t { D with nx := u D } σ H
theorem Qaw : PSs X [] tNext := fun _ _ σ H _ I h => wpAny_execs_nil ⟨σ, H, I, h⟩
theorem Qac (h1 : PS X st t) (h2 : PSs X rest u) : PSs X (st :: rest) (tSeq t u) := by
 intro pins s σ H D I h
 refine wpAny_execs_cons (thn (h1 pins s σ H { D with nx := u D } I h) fun f s1 q => ?_)
 cases f with
 | next =>
   obtain ⟨σ', H', I', q⟩ := q
   exact h2 pins s1 σ' H' D I' q
 | ret v => exact q
 | brk => exact q
 | cont => exact q
theorem Qag (h1 : PS X st t) : PSs X [st] t := by
 intro pins s σ H D I h
 refine wpAny_execs_cons (thn (h1 pins s σ H D I h) fun f s1 q => ?_)
 cases f with
 | next => exact wpAny_execs_nil q
 | ret v => exact q
 | brk => exact q
 | cont => exact q
theorem Inv.quiet {pins : Q3} {σ : St} {H : Hp} {s : Shared} (I : Inv X pins σ H s) : interactive X.env = false := by simp [interactive, I.ok.kind]
def tDrop (te : TE) : TS := fun D σ H => te σ H fun _ H1 => D.nx σ H1
theorem Qa9 (he : PE X e te) (hs : swapsWith e none pos.line X.env = pure false := by rfl) : PS X (.Expr e pos) (tDrop te) := by
 intro pins s σ H D I h
 exact wpAny_Expr_any (thn (he pins s σ H _ I h) fun v s1 ⟨x, H1, I1, r1, q1⟩ => ⟨σ, H1, I1, q1⟩) I.quiet hs
def tRet (te : TE) : TS := fun D σ H => te σ H D.rt
theorem Qaq (he : PE X e te) : PS X (.Return (some e) pos) (tRet te) := by
 intro pins s σ H D I h
 exact wpAny_Return_some (thn (he pins s σ H _ I h) fun v s1 ⟨x, H1, I1, r1, q1⟩ => ⟨x, σ, H1, I1, r1, q1⟩)
def tIfS (c : TT) (t u : TS) : TS := fun D σ H => c σ H fun b H1 => if b = true then t D σ H1 else u D σ H1
theorem Qbo {c : Expr} {a b : List Stmt} {tc : TT} (hc : PT X c tc) (ha : PSs X a t) (hb : PSs X b u) : PS X (.If c a b pos) (tIfS tc t u) := by
 intro pins s σ H D I h
 refine wpAny_If (thn (hc pins s σ H _ I h) fun d s1 ⟨H1, I1, q1⟩ => ?_)
 cases d with
 | true => exact ha pins s1 σ H1 D I1 q1
 | false => exact hb pins s1 σ H1 D I1 q1
def tNever : TS := fun _ _ _ => False
theorem Qgu : PS X st tNever := fun _ _ _ _ _ _ h => h.elim
end
abbrev TG := V → St → Hp → (St → Hp → Prop) → Prop
abbrev TGs := List V → St → Hp → (St → Hp → Prop) → Prop
def PG (X : Cx) (target : Expr) (t : TG) : Prop :=
 ∀ (pins : Q3) (s : Shared) (σ : St) (H : Hp) (v : V) (u : Value) (Q : St → Hp → Prop), Inv X pins σ H s → RelV v u → t v σ H Q →
   wpAny (model X.prog X.w) X.A (assign target X.env u) (fun _ s' => ∃ σ' H', Inv X pins σ' H' s' ∧ Q σ' H') X.xe s
def PGs (X : Cx) (ts : List Expr) (t : TGs) : Prop :=
 ∀ (pins : Q3) (s : Shared) (σ : St) (H : Hp) (vs : List V) (us : List Value) (Q : St → Hp → Prop), Inv X pins σ H s → Vals vs us → t vs σ H Q →
   wpAny (model X.prog X.w) X.A (assignInOrder ((assignEach ts X.env).map (·.2)) us) (fun _ s' => ∃ σ' H', Inv X pins σ' H' s' ∧ Q σ' H') X.xe s
abbrev TSet := V → V → V → Hp → (Hp → Prop) → Prop
def PSet (X : Cx) (t : TSet) : Prop :=
 ∀ (pins : Q3) (s : Shared) (σ : St) (H : Hp) (o i v : V) (ov iv u : Value) (Q : Hp → Prop), Inv X pins σ H s → RelV o ov → RelV i iv → RelV v u → t o i v H Q →
   wpAny (model X.prog X.w) X.A (setItem ov iv u) (fun _ s' => ∃ H', Inv X pins σ H' s' ∧ Q H') X.xe s
section
variable {X : Cx} {pos : Pos}
def gName (i : Nat) : TG := fun v σ H Q => Q (σ.set i (some v)) H
theorem Qar {i : Nat} {x : Str} (hN : X.N.Nodup) (hi : X.N[i]? = some x) (hx : Loc X.env.scope x) (hf : X.fn x = true ∨ X.env.scope.names.lookup x = some .local := by first | exact .inl rfl | exact .inr rfl | assumption) : PG X (.Name x pos) (gName i) := by
 intro pins s σ H v u Q I r h
 exact wpAny_assign_Name (Qdm I hN hi hx r (fun s' I' => ⟨_, H, I', h⟩) hf)
def gNil : TGs := fun vs σ H Q => vs = [] ∧ Q σ H
def gCons (t : TG) (u : TGs) : TGs := fun vs σ H Q => ∃ v r, vs = v :: r ∧ t v σ H fun σ' H' => u r σ' H' Q
theorem Qdc : PGs X [] gNil := by
 intro pins s σ H vs us Q I r h
 obtain ⟨e, h⟩ := h
 subst e
 cases r
 exact assignInOrder_nil ⟨σ, H, I, h⟩
theorem Qbi {e : Expr} {es : List Expr} {t : TG} {u : TGs} (h1 : PG X e t) (h2 : PGs X es u)
 (hs : (assignEach (e :: es) X.env).map (·.2) = assign e X.env :: (assignEach es X.env).map (·.2) := by rfl) : PGs X (e :: es) (gCons t u) := by
 intro pins s σ H vs us Q I r h
 obtain ⟨v, vr, e1, h⟩ := h
 subst e1
 cases r with
 | cons r rr =>
   rw [hs]
   refine assignInOrder_cons (thn (h1 pins s σ H _ _ _ I r h) fun _ s1 ⟨σ1, H1, I1, q1⟩ => ?_)
   exact h2 pins s1 σ1 H1 _ _ Q I1 rr q1
def gTup (K : Q4) (n : Nat) (t : TGs) : TG := fun v σ H Q => ∃ a xs, v = .ref a ∧ SqT K H a xs ∧ xs.length = n ∧ t xs σ H Q
theorem Qec {es : List Expr} {k : Nat} {t : TGs} {n : Nat} (hc : X.calm = true) (h : PGs X es t)
 (hn : (assignEach es X.env).length = n := by rfl) (hst : (assignEach es X.env).findIdx? (·.1) = none := by rfl) : PG X (.Tuple es k pos) (gTup X.K n t) := by
 intro pins s σ H v u Q I r hw
 obtain ⟨a, xs, e1, hq, hl, hw⟩ := hw
 subst e1
 cases r
 obtain ⟨its, rv, ht, hz⟩ := I.tuple hq
 refine assign_Tuple_tuple (I.ok.hd hc) ht (by simp [hn, ← hl, rv.length]) hst fun h' hx => ?_
 have I1 : Inv X pins σ H { s with heap := h' } := I.kept (t' := s.toks) fun b o e => hx b o (Nat.ne_of_lt (Heap.lt_size e)) e
 exact h pins _ σ H xs _ Q I1 (by simpa using rv) hw
def gSub (to ti : TE) (t : TSet) : TG := fun v σ H Q => to σ H fun o H1 => ti σ H1 fun i H2 => t o i v H2 fun H3 => Q σ H3
theorem pg_sub {o i : Expr} {to ti : TE} {t : TSet} (ho : PE X o to) (hi : PE X i ti) (hs : PSet X t)
 (ha : ∀ v, assign (.Subscript o i pos) X.env v = (do
  let ov ← holding [v] (eval o X.env)
  let iv ← holding [v, ov] (eval i X.env)
  standAt pos
  holding [v, ov, iv] (setItem ov iv v)
  release [v, ov, iv] []) := by intro _; rfl) : PG X (.Subscript o i pos) (gSub to ti t) := by
 intro pins s σ H v u Q I r h
 rw [ha]
 refine wpAny_bind (wpAny_holding (thn (ho pins s σ H _ I h) fun ov s1 ⟨x, H1, I1, r1, q1⟩ => ?_))
 refine wpAny_bind (wpAny_holding (thn (hi pins s1 σ H1 _ I1 q1) fun iv s2 ⟨y, H2, I2, r2, q2⟩ => ?_))
 refine wpAny_bind (wpAny_standAt (wpAny_bind (wpAny_holding (thn (hs pins s2 σ H2 x y v ov iv u _ I2 r1 r2 r q2) fun _ s3 ⟨H3, I3, q3⟩ => ?_))))
 exact wpAny_release ⟨σ, H3, I3, q3⟩
def tAsg (te : TE) (g : TG) : TS := fun D σ H => te σ H fun x H1 => g x σ H1 D.nx
theorem ps_asg {tg e : Expr} {te : TE} {g : TG} (he : PE X e te) (hg : PG X tg g) (hs : swapsWithSole [tg] e pos.line X.env = pure false := by rfl) (hw : swappedStores [tg] e X.env = pure none := by rfl)
 (h1 : (assignEach [tg] X.env).map (·.2) = [assign tg X.env] := by rfl) : PS X (.Assign [tg] e pos) (tAsg te g) := by
 intro pins s σ H D I h
 refine wpAny_Assign_stores (thn (he pins s σ H _ I h) fun v s1 ⟨x, H1, I1, r1, q1⟩ => ?_) hs hw
 rw [h1]
 exact thn (hg pins s1 σ H1 x v _ I1 r1 q1) fun _ s2 q => q
theorem Qaj {i : Nat} {x : Str} {e : Expr} {te : TE} {pos' : Pos} (hN : X.N.Nodup) (hi : X.N[i]? = some x) (hx : Loc X.env.scope x) (he : PE X e te) (hs : swapsWith e (some (.Name x pos')) pos.line X.env = pure false := by rfl) (hf : X.fn x = true ∨ X.env.scope.names.lookup x = some .local := by first | exact .inl rfl | exact .inr rfl | assumption) :
 PS X (.Assign [.Name x pos'] e pos) (tAsg te (gName i)) := by
 intro pins s σ H D I h
 refine wpAny_Assign_Name (thn (he pins s σ H _ I h) fun v s1 ⟨y, H1, I1, r1, q1⟩ => ?_) hs
 exact Qdm I1 hN hi hx r1 (fun s2 I2 => ⟨_, H1, I2, q1⟩) hf
end
section
variable {X : Cx} {pos : Pos}
def tWhile (c : TT) (tb : TS) : TS := fun D σ H => ∃ W : Nat → St → Hp → Prop, (∃ m, W m σ H) ∧ ∀ m σ H, W m σ H →
 c σ H fun b H1 => if b = true then ∃ N : St → Hp → Prop, (∀ σ' H', N σ' H' → ∃ m', m' < m ∧ W m' σ' H') ∧ tb { D with nx := N, ct := N, bk := D.nx } σ H1 else D.nx σ H1
theorem Qgs {c : Expr} {body : List Stmt} {tc : TT} {tb : TS} (hp : PassesOwn (model X.prog X.w) X.A X.env X.xe) (hc : PT X c tc) (hb : PSs X body tb) : PS X (.While c body [] pos) (tWhile tc tb) := by
 intro pins s σ H D I h
 obtain ⟨W, ⟨m0, w0⟩, turn⟩ := h
 refine wpAny_While (codeAny_whileLoop (fun n s' => ∃ σ' H', Inv X pins σ' H' s' ∧ W n σ' H') ?_ m0 ⟨σ, H, I, w0⟩)
 rintro n s1 ⟨σ1, H1, I1, w1⟩
 refine wpAny_passesOwn hp (thn (hc pins s1 σ1 H1 _ I1 (turn n σ1 H1 w1)) fun b s2 ⟨H2, I2, q2⟩ => ?_)
 cases b with
 | true =>
   obtain ⟨N, hN, q2⟩ := q2
   rw [if_pos rfl]
   refine wpAny_passesOwn hp (thn (hb pins s2 σ1 H2 _ I2 q2) fun f s3 q3 => ?_)
   cases f with
   | next =>
     obtain ⟨σ3, H3, I3, n3⟩ := q3
     obtain ⟨m', hm, w3⟩ := hN σ3 H3 n3
     exact ⟨m', hm, σ3, H3, I3, w3⟩
   | cont =>
     obtain ⟨σ3, H3, I3, n3⟩ := q3
     obtain ⟨m', hm, w3⟩ := hN σ3 H3 n3
     exact ⟨m', hm, σ3, H3, I3, w3⟩
   | brk => exact q3
   | ret v => exact q3
 | false =>
   rw [if_neg Bool.false_ne_true]
   exact wpAny_execs_nil ⟨σ1, H2, I2, q2⟩
end
structure It where
 go : Nat → Hp → Prop
 yld : Nat → Hp → V → Hp → Prop
 stop : Nat → Hp → Prop
def FpOk (X : Cx) (pins : Q3) (H : Hp) (b : Addr) : Prop :=
 H b = none ∧ b ≠ X.env.locals ∧ b ∉ X.fs ∧ (b ∈ X.ex ∨ X.s₀.heap.objs.size ≤ b) ∧ (∀ x c, X.env.cells.lookup x = some c → c ≠ b) ∧ ∀ p ∈ X.pn ++ pins, p.1 ≠ b
theorem Inv.fpOk {X : Cx} {pins : Q3} {σ : St} {H H' : Hp} {s : Shared} {b : Addr} (I : Inv X pins σ H s) (hb : s.heap.objs.size ≤ b) (hn : H' b = none) : FpOk X pins H' b := by
 refine ⟨hn, Nat.ne_of_gt (Nat.lt_of_lt_of_le I.lt hb), I.nofs hb, .inr (Nat.le_trans I.sz hb), fun x c e z => ?_, fun p hp z => ?_⟩
 ·obtain ⟨v, q⟩ := I.cell x c e
  exact absurd (Nat.lt_of_lt_of_le q.lt (by rw [z]; exact hb)) (Nat.lt_irrefl _)
 ·exact absurd (Nat.lt_of_lt_of_le (Heap.lt_size (I.pin p hp).1) (by rw [z]; exact hb)) (Nat.lt_irrefl _)
structure Turn (P : Program) (w : World) (K : Q4) (tg : Expr) (J : It) (fp : List Addr) (it : Addr) (tn : Nat → Heap → Prop) : Prop where
 mem : it ∈ fp
 obj : ∀ i h, tn i h → ∀ b ∈ fp, ∃ o, h.get? b = some o ∧ ∀ v, o.data ≠ .cell v
 keep : ∀ i h h', tn i h → (∀ b ∈ fp, ∀ o, h.get? b = some o → h'.get? b = some o) → tn i h'
 item : ∀ (X : Cx), X.prog = P → X.w = w → X.K = K → X.calm = true → ∀ (i : Nat) (pins : Q3) (s : Shared) (σ : St) (H : Hp) (E : Q0), Inv X pins σ H s → (∀ b ∈ fp, FpOk X pins H b) → tn i s.heap → J.go i H →
  wpAny (model P w) X.A (pyNext (.ref it)) (fun r s1 => ∃ u, r = some u ∧
   wpAny (model P w) X.A (letOwnedTupleGo tg (.ref it) u) (fun _ s2 => ∃ x H', Inv X pins σ H' s2 ∧ RelV x u ∧ J.yld i H x H' ∧ tn (i + 1) s2.heap ∧ ∀ b ∈ fp, H' b = none) E s1) E s
 done : ∀ (X : Cx), X.prog = P → X.w = w → X.K = K → X.calm = true → ∀ (i : Nat) (pins : Q3) (s : Shared) (σ : St) (H : Hp) (E : Q0), Inv X pins σ H s → (∀ b ∈ fp, FpOk X pins H b) → tn i s.heap → J.stop i H →
  wpAny (model P w) X.A (pyNext (.ref it)) (fun r s1 => r = none ∧ Inv X pins σ H s1) E s
 self : ∀ (A : Around) (i : Nat) (s : Shared) (Q : Q0) (E : Q0), tn i s.heap → Q (.ref it) s → wpAny (model P w) A (pyIter (.ref it)) Q E s
abbrev TI := St → Hp → (It → Hp → Prop) → Prop
def PIE (X : Cx) (pins : Q3) (σ : St) (tg : Expr) (R : It → Hp → Prop) (itv : Value) (s2 : Shared) : Prop :=
 ∃ (it : Addr) (fp : List Addr) (tn : Nat → Heap → Prop) (J : It) (H' : Hp), itv = .ref it ∧ Inv X pins σ H' s2 ∧ Turn X.prog X.w X.K tg J fp it tn ∧ tn 0 s2.heap ∧ (∀ b ∈ fp, FpOk X pins H' b) ∧ R J H'
def PI (X : Cx) (tg iter : Expr) (wi : TI) : Prop :=
 ∀ (pins : Q3) (s : Shared) (σ : St) (H : Hp) (R : It → Hp → Prop), Inv X pins σ H s → wi σ H R →
   wpAny (model X.prog X.w) X.A (eval iter X.env) (fun v s1 => wpAny (model X.prog X.w) X.A (pyIter v) (PIE X pins σ tg R) X.xe s1) X.xe s
theorem go_of {M : Model} {A : Around} {E : Q0} {s : Shared} {tg : Expr} {it : Addr} {u : Value} {o : Obj} {n : String} {vs : Array Value} {Q : Unit → Shared → Prop} (ho : s.heap.get? it = some o) (hc : o.cls = .type n) (hd : o.data = .fields vs)
 (hn : ["enumerate", "zip", "dict_itemiterator", "dict_reverseitemiterator", "odict_iterator", "itertools.zip_longest", "itertools.pairwise"].contains n = false) (hQ : Q () s) : wpAny M A (letOwnedTupleGo tg (.ref it) u) Q E s := by
 unfold letOwnedTupleGo
 cases tg <;> first
  | exact wpAny_pure hQ
  | (cases u <;> first
   | exact wpAny_pure hQ
   | (refine wpAny_bind (wpAny_load ho ?_)
      rw [hc, hd]
      show wpAny M A (if (["enumerate", "zip", "dict_itemiterator", "dict_reverseitemiterator", "odict_iterator", "itertools.zip_longest", "itertools.pairwise"].contains n && vs[0]? == some (rawInt _)) = true then _ else _) Q E s
      rw [if_neg (by intro h; rw [hn, Bool.false_and] at h; cases h)]
      exact wpAny_pure hQ))
def Itl (K : Q4) (a : Addr) : It :=
 ⟨fun i H => ∃ xs x, SqL K H a xs ∧ xs[i]? = some x, fun i H x H' => H' = H ∧ ∀ xs, SqL K H a xs → xs[i]? = some x, fun i H => ∃ xs, SqL K H a xs ∧ xs.length ≤ i⟩
def Itr (lo : Int) (n : Nat) : It := ⟨fun i _ => i < n, fun i H x H' => H' = H ∧ x = .int (lo + i), fun i _ => n ≤ i⟩
theorem Qhu {P : Program} {w : World} {K : Q4} {tg : Expr} (a it : Addr) : Turn P w K tg (Itl K a) [it] it (fun i h => h.IsListIter it a i) where
 mem := by simp
 obj := fun i h st b hb => by
  have e : b = it := by simpa using hb
  subst e
  obtain ⟨o, e, c, d⟩ := st
  exact ⟨o, e, fun v z => by rw [d] at z; cases z⟩
 keep := fun i h h' st k => st.at fun o e => k it (by simp) o e
 item := by
  intro X hP hw hK hc i pins s σ H E I hf st hg
  subst hP hw hK
  obtain ⟨xs, x, hq, hx⟩ := hg
  obtain ⟨its, rv, p, hz⟩ := I.list hq
  obtain ⟨u, hu, ru⟩ := rv.get hx
  obtain ⟨f0, f1, f2, f3, f4, f5⟩ := hf it (by simp)
  refine wpAny_pyNext_list_item st p.isList (x := u) (by simpa using hu) fun h' st' sb => ?_
  have I1 : Inv X pins σ H { s with heap := h' } := I.turned (t' := s.toks) (fun b o hb e => (sb.2 b hb).trans e) f0 f1 f3 f4 f5
  obtain ⟨o, e, c, d⟩ := id st'
  exact ⟨u, rfl, go_of (s := { s with heap := h' }) e c d (by decide) ⟨x, H, I1, ru, ⟨rfl, fun ys hy => by rw [I.Qdq hy hq]; exact hx⟩, st', fun b hb => (hf b hb).1⟩⟩
 done := by
  intro X hP hw hK hc i pins s σ H E I hf st hg
  subst hP hw hK
  obtain ⟨xs, hq, hx⟩ := hg
  obtain ⟨its, rv, p, hz⟩ := I.list hq
  obtain ⟨f0, f1, f2, f3, f4, f5⟩ := hf it (by simp)
  have hl := rv.length
  exact wpAny_pyNext_list_end (I.ok.hd hc) st p.isList (by simp; omega) fun h' eb => ⟨rfl, I.turned (t' := s.toks) (fun b o hb e => eb b o hb e) f0 f1 f3 f4 f5⟩
 self := fun _ _ _ _ _ st h => wpAny_pyIter_listiter st h
theorem Qhd {P : Program} {w : World} {K : Q4} {tg : Expr} (it : Addr) (lo : Int) (n : Nat) : Turn P w K tg (Itr lo n) [it] it (fun i h => IsRangeIter h it (lo + (i : Nat) * 1) ((n : Int) - (i : Nat)) 1) where
 mem := by simp
 obj := fun i h st b hb => by
  have e : b = it := by simpa using hb
  subst e
  exact ⟨_, st, fun v z => by
   have z' : Data.fields _ = Data.cell v := z
   cases z'⟩
 keep := fun i h h' st k => k it (by simp) _ st
 item := by
  intro X hP hw hK hc i pins s σ H E I hf st hg
  subst hP hw hK
  obtain ⟨f0, f1, f2, f3, f4, f5⟩ := hf it (by simp)
  have W := Walks.range (prog := X.prog) (w := X.w) (I.ok.hd hc) it lo 1 n
  refine W.item i s _ _ hg st fun v h' tk hv st' kk => ?_
  obtain ⟨t, rfl⟩ := hv
  have I1 : Inv X pins σ H { s with heap := h', toks := tk } := I.turned (fun b o hb e => kk b o (by simpa using hb) e) f0 f1 f3 f4 f5
  refine ⟨_, rfl, go_of (s := { s with heap := h', toks := tk }) (n := "range_iterator") st' rfl rfl (by decide) ⟨.int (lo + i), H, I1, ⟨t, ?_⟩, ⟨rfl, rfl⟩, st', fun b hb => (hf b hb).1⟩⟩
  rw [Int.mul_one]
 done := by
  intro X hP hw hK hc i pins s σ H E I hf st hg
  subst hP hw hK
  obtain ⟨f0, f1, f2, f3, f4, f5⟩ := hf it (by simp)
  exact wpAny_pyNext_range_end (I.ok.hd hc) st (by have : n ≤ i := hg; omega) fun h' eb => ⟨rfl, I.turned (t' := s.toks) (fun b o hb e => eb b o hb e) f0 f1 f3 f4 f5⟩
 self := fun _ _ _ _ _ st h => wpAny_pyIter_rangeiter st h
end L2
namespace L2
open PySem PySem.Spec PyProof.Rows
section
variable {X : Cx} {tg : Expr}
def iList (K : Q4) (tl : TE) : TI := fun σ H R => tl σ H fun x H1 => ∃ a, x = .ref a ∧ (∃ xs, SqL K H1 a xs) ∧ R (Itl K a) H1
theorem Qas {l : Expr} {tl : TE} (hl : PE X l tl) : PI X tg l (iList X.K tl) := by
 intro pins s σ H R I h
 refine thn (hl pins s σ H _ I h) fun v s1 ⟨x, H1, I1, r1, q1⟩ => ?_
 obtain ⟨a, e, ⟨xs, hq⟩, q⟩ := q1
 subst e
 cases r1
 obtain ⟨its, rv, p, hz⟩ := I1.list hq
 refine wpAny_pyIter_list p.isList ?_
 refine ⟨s1.heap.objs.size, [s1.heap.objs.size], _, _, H1, rfl, I1.kept (t' := s1.toks) fun b o e => Heap.get?_push_of_some _ e, Qhu a _, ⟨_, Heap.get?_push_size _ rfl, rfl, rfl⟩, fun b hb => ?_, q⟩
 have e : b = s1.heap.objs.size := by simpa using hb
 subst e
 exact I1.fpOk (Nat.le_refl _) (I1.hok.fresh (Nat.le_refl _))
theorem Qkc {pins : Q3} {σ : St} {H : Hp} {s : Shared} {R : It → Hp → Prop} {E : Q0} {lo hi : Int} {t u v : Tok} {tk : Nat} (I : Inv X pins σ H s) (h1 : -(2 ^ 62) ≤ lo) (h2 : lo < 2 ^ 62) (h3 : -(2 ^ 62) ≤ hi) (h4 : hi < 2 ^ 62)
 (q : R (Itr lo (hi - lo).toNat) H) : wpAny (model X.prog X.w) X.A (pyIter (.ref s.heap.objs.size)) (PIE X pins σ tg R) E { s with heap := s.heap.push { cls := .type "range", data := .fields #[.int lo t, .int hi u, .int 1 v] }, toks := tk } := by
 refine wpAny_pyIter_range (IsRange.new ..) (small_one h1 h2 h3 h4) ?_
 have I1 : Inv X pins σ H { s with heap := s.heap.push { cls := .type "range", data := .fields #[.int lo t, .int hi u, .int 1 v] }, toks := tk } := I.kept fun b o e => Heap.get?_push_of_some _ e
 refine ⟨(s.heap.push { cls := .type "range", data := .fields #[.int lo t, .int hi u, .int 1 v] }).objs.size, [(s.heap.push { cls := .type "range", data := .fields #[.int lo t, .int hi u, .int 1 v] }).objs.size], _, _, H, rfl,
  I1.kept (t' := tk) fun b o e => Heap.get?_push_of_some _ e, Qhd _ lo (hi - lo).toNat, ?_, fun b hb => ?_, q⟩
 ·have e1 : lo + ((0 : Nat) : Int) * 1 = lo := by simp
  have e2 : (((hi - lo).toNat : Nat) : Int) - ((0 : Nat) : Int) = Builtin.Range.rangeSize lo hi 1 := by rw [rangeSize_one]; split <;> omega
  show IsRangeIter _ _ (lo + ((0 : Nat) : Int) * 1) ((((hi - lo).toNat : Nat) : Int) - ((0 : Nat) : Int)) 1
  rw [e1, e2]
  exact Heap.get?_push_size _ rfl
 ·have e : b = (s.heap.push { cls := .type "range", data := .fields #[.int lo t, .int hi u, .int 1 v] }).objs.size := by simpa using hb
  subst e
  exact I1.fpOk (Nat.le_refl _) (I1.hok.fresh (Nat.le_refl _))
def iRng1 (ta : TA) : TI := fun σ H R => ta σ H fun vs H1 => ∃ j : Int, vs = [.int j] ∧ -(2 ^ 62) ≤ j ∧ j < 2 ^ 62 ∧ R (Itr 0 j.toNat) H1
theorem Qa1 {a : Expr} {ta : TA} {p pos : Pos} (hg : Gl X "range") (hm : X.mg "range" = none) (ha : PA X [a] ta) (hs : starEach [a] X.env = [(false, eval a X.env)] := by rfl) : PI X tg (.Call (.Name "range" p) [a] [] pos) (iRng1 ta) := by
 intro pins s σ H R I h
 refine Call_ (Qdi I hg hm boot_range (PyProof.Rows.callWith_type1 (thn (ha pos pins s σ H _ I h) fun us s1 ⟨vs, H1, I1, r1, q1⟩ => ?_) hs rfl))
 obtain ⟨j, e, q1, q2, q⟩ := q1
 subst e
 cases r1 with
 | cons r rr =>
   cases rr
   obtain ⟨t, rfl⟩ := r
   exact call_range_1 (Qkc I1 (by omega) (by omega) q1 q2 (by simpa using q))
def tFor (wi : TI) (g : TG) (tb : TS) : TS := fun D σ H => wi σ H fun J H1 => ∃ W : Nat → Nat → St → Hp → Prop, (∃ m, W 0 m σ H1) ∧ ∀ i m σ H, W i m σ H →
 (J.stop i H ∧ D.nx σ H) ∨ (J.go i H ∧ ∃ N : St → Hp → Prop, (∀ σ' H', N σ' H' → ∃ m', m' < m ∧ W (i + 1) m' σ' H') ∧ ∀ x H', J.yld i H x H' → g x σ H' fun σ2 H2 => tb { D with nx := N, ct := N, bk := D.nx } σ2 H2)
def pinsAt (fp : List Addr) (h : Heap) : List (Addr × Obj) := fp.filterMap fun b => (h.get? b).map fun o => (b, o)
theorem Qbs {fp : List Addr} {h : Heap} {b : Addr} {o : Obj} (hb : b ∈ fp) (e : h.get? b = some o) : (b, o) ∈ pinsAt fp h := List.mem_filterMap.mpr ⟨b, hb, by rw [e]; rfl⟩
theorem Qin {fp : List Addr} {h : Heap} {p : Addr × Obj} (hp : p ∈ pinsAt fp h) : p.1 ∈ fp ∧ h.get? p.1 = some p.2 := by
 obtain ⟨b, hb, e⟩ := List.mem_filterMap.mp hp
 cases q : h.get? b with
 | none => rw [q] at e; cases e
 | some o =>
   rw [q] at e
   have e' : (b, o) = p := Option.some.inj e
   subst e'
   exact ⟨hb, q⟩
theorem Inv.pinned {pins : Q3} {σ : St} {H : Hp} {s : Shared} {fp : List Addr} (I : Inv X pins σ H s) (hf : ∀ b ∈ fp, FpOk X pins H b) (ho : ∀ b ∈ fp, ∃ o, s.heap.get? b = some o ∧ ∀ v, o.data ≠ .cell v) : Inv X (pins ++ pinsAt fp s.heap) σ H s :=
 I.Qcl fun p hp => (List.mem_append.mp hp).elim (fun z => I.pin p (List.mem_append_right _ z)) fun z => by
  obtain ⟨hb, e⟩ := Qin z
  obtain ⟨f0, f1, f2, _⟩ := hf p.1 hb
  obtain ⟨o, e', d⟩ := ho p.1 hb
  rw [e] at e'; cases e'
  exact ⟨e, f0, f1, f2, d⟩
theorem Inv.unpinned {pins pl : Q3} {σ : St} {H : Hp} {s : Shared} (I : Inv X (pins ++ pl) σ H s) : Inv X pins σ H s := I.Qcl fun p hp => I.pin p (List.mem_append_right _ (List.mem_append_left _ hp))
theorem Qbh {iter : Expr} {body : List Stmt} {wi : TI} {g : TG} {tb : TS} {pos : Pos} (hp : PassesOwn (model X.prog X.w) X.A X.env X.xe) (hc : X.calm = true) (hi : PI X tg iter wi) (hg : PG X tg g) (hb : PSs X body tb)
 (hs : ∀ x, foldedSetIterable iter X.env x = pure x := by intro _; rfl) : PS X (.For tg iter body [] pos) (tFor wi g tb) := by
 intro pins s σ H D I h
 refine wpAny_For (thn (hi pins s σ H _ I h) fun v s1 h1 => thn h1 fun itv s2 h2 => ?_) hs
 obtain ⟨it, fp, tn, J, H2, e, I2, T, st2, f2, W, ⟨m0, w0⟩, turn⟩ := h2
 subst e
 have stat : ∀ {H' : Hp}, (∀ b ∈ fp, H' b = none) → ∀ b ∈ fp, FpOk X pins H' b := fun hn b hb => ⟨hn b hb, (f2 b hb).2⟩
 refine codeAny_forLoop_any (fun n s' => ∃ i σ' H', Inv X pins σ' H' s' ∧ tn i s'.heap ∧ (∀ b ∈ fp, H' b = none) ∧ W i n σ' H') ?_ m0 ⟨0, σ, H2, I2, st2, fun b hb => (f2 b hb).1, w0⟩
 rintro n s3 ⟨i, σ3, H3, I3, st3, fr3, w3⟩
 rcases turn i n σ3 H3 w3 with ⟨stop, qn⟩ | ⟨go, N, hN, step⟩
 ·refine wpAny_passesOwn hp (thn (T.done X rfl rfl rfl hc i pins s3 σ3 H3 X.xe I3 (stat fr3) st3 stop) fun r s4 ⟨hr, I4⟩ => ?_)
  subst hr
  exact wpAny_execs_nil ⟨σ3, H3, I4, qn⟩
 ·refine wpAny_passesOwn hp (thn (T.item X rfl rfl rfl hc i pins s3 σ3 H3 X.xe I3 (stat fr3) st3 go) fun r s4 ⟨u, hr, h4⟩ => ?_)
  subst hr
  refine wpAny_passesOwn hp (thn h4 fun _ s5 ⟨x, H5, I5, r5, y5, st5, fr5⟩ => ?_)
  have I5' := I5.pinned (stat fr5) (T.obj _ _ st5)
  refine wpAny_passesOwn hp (thn (hg _ s5 σ3 H5 x u _ I5' r5 (step x H5 y5)) fun _ s6 ⟨σ6, H6, I6, q6⟩ => ?_)
  refine wpAny_passesOwn hp (thn (hb _ s6 σ6 H6 _ I6 q6) fun f s7 q7 => ?_)
  have again : ∀ {σ7 : St} {H7 : Hp}, Inv X (pins ++ pinsAt fp s5.heap) σ7 H7 s7 → N σ7 H7 → ∃ m, m < n ∧ ∃ i σ' H', Inv X pins σ' H' s7 ∧ tn i s7.heap ∧ (∀ b ∈ fp, H' b = none) ∧ W i m σ' H' := fun {σ7 H7} I7 n7 => by
   obtain ⟨m', hm, w7⟩ := hN σ7 H7 n7
   refine ⟨m', hm, i + 1, σ7, H7, I7.unpinned, T.keep _ _ _ st5 fun b hb o e => (I7.pin (b, o) (List.mem_append_right _ (List.mem_append_right _ (Qbs hb e)))).1, fun b hb => ?_, w7⟩
   obtain ⟨o, e, d⟩ := T.obj _ _ st5 b hb
   exact (I7.pin (b, o) (List.mem_append_right _ (List.mem_append_right _ (Qbs hb e)))).2.1
  cases f with
  | next => obtain ⟨σ7, H7, I7, n7⟩ := q7; exact again I7 n7
  | cont => obtain ⟨σ7, H7, I7, n7⟩ := q7; exact again I7 n7
  | brk => obtain ⟨σ7, H7, I7, q7⟩ := q7; exact ⟨σ7, H7, I7.unpinned, q7⟩
  | ret v => obtain ⟨x7, σ7, H7, I7, r7, q7⟩ := q7; exact ⟨x7, σ7, H7, I7.unpinned, r7, q7⟩
end
theorem Qb2 {K : Q4} {a : Addr} {xs : List V} {g : TG} {tb : TS} {D : Ends} {σ : St} {H : Hp} (Pv : Nat → St → Hp → Prop) (h0 : Pv 0 σ H) (hl : ∀ i σ H, i ≤ xs.length → Pv i σ H → SqL K H a xs)
 (hs : ∀ i x σ H, xs[i]? = some x → Pv i σ H → g x σ H fun σ2 H2 => tb { D with nx := Pv (i + 1), ct := Pv (i + 1), bk := D.nx } σ2 H2) (hd : ∀ σ H, Pv xs.length σ H → D.nx σ H) :
 ∃ W : Nat → Nat → St → Hp → Prop, (∃ m, W 0 m σ H) ∧ ∀ i m σ H, W i m σ H →
   ((Itl K a).stop i H ∧ D.nx σ H) ∨ ((Itl K a).go i H ∧ ∃ N : St → Hp → Prop, (∀ σ' H', N σ' H' → ∃ m', m' < m ∧ W (i + 1) m' σ' H') ∧ ∀ x H', (Itl K a).yld i H x H' → g x σ H' fun σ2 H2 => tb { D with nx := N, ct := N, bk := D.nx } σ2 H2) := by
 refine ⟨fun i m σ H => m = xs.length - i ∧ i ≤ xs.length ∧ Pv i σ H, ⟨xs.length, by simp, Nat.zero_le _, h0⟩, ?_⟩
 rintro i m σ H ⟨rfl, hi, p⟩
 have q := hl i σ H hi p
 by_cases hlt : i < xs.length
 ·refine .inr ⟨⟨xs, xs[i], q, by simp [hlt]⟩, Pv (i + 1), fun σ' H' p' => ⟨xs.length - (i + 1), by omega, rfl, hlt, p'⟩, fun x H' y => ?_⟩
  obtain ⟨e, y⟩ := y
  subst e
  exact hs i x σ _ (y xs q) p
 ·have e : i = xs.length := by omega
  subst e
  exact .inl ⟨⟨xs, q, Nat.le_refl _⟩, hd σ H p⟩
theorem Qbk {lo : Int} {n : Nat} {g : TG} {tb : TS} {D : Ends} {σ : St} {H : Hp} (Pv : Nat → St → Hp → Prop) (h0 : Pv 0 σ H)
 (hs : ∀ i σ H, i < n → Pv i σ H → g (.int (lo + i)) σ H fun σ2 H2 => tb { D with nx := Pv (i + 1), ct := Pv (i + 1), bk := D.nx } σ2 H2) (hd : ∀ σ H, Pv n σ H → D.nx σ H) :
 ∃ W : Nat → Nat → St → Hp → Prop, (∃ m, W 0 m σ H) ∧ ∀ i m σ H, W i m σ H →
   ((Itr lo n).stop i H ∧ D.nx σ H) ∨ ((Itr lo n).go i H ∧ ∃ N : St → Hp → Prop, (∀ σ' H', N σ' H' → ∃ m', m' < m ∧ W (i + 1) m' σ' H') ∧ ∀ x H', (Itr lo n).yld i H x H' → g x σ H' fun σ2 H2 => tb { D with nx := N, ct := N, bk := D.nx } σ2 H2) := by
 refine ⟨fun i m σ H => m = n - i ∧ i ≤ n ∧ Pv i σ H, ⟨n, by simp, Nat.zero_le _, h0⟩, ?_⟩
 rintro i m σ H ⟨rfl, hi, p⟩
 by_cases hlt : i < n
 ·refine .inr ⟨hlt, Pv (i + 1), fun σ' H' p' => ⟨n - (i + 1), by omega, rfl, hlt, p'⟩, fun x H' y => ?_⟩
  obtain ⟨e, y⟩ := y
  subst e y
  exact hs i σ _ hlt p
 ·have e : i = n := by omega
  subst e
  exact .inl ⟨Nat.le_refl _, hd σ H p⟩
theorem Qjz {c : TT} {tb : TS} {D : Ends} {σ : St} {H : Hp} (Pv : St → Hp → Prop) (μ : St → Hp → Nat) (h0 : Pv σ H)
 (hs : ∀ σ H, Pv σ H → c σ H fun b H1 => if b = true then tb { D with nx := fun σ' H' => Pv σ' H' ∧ μ σ' H' < μ σ H, ct := fun σ' H' => Pv σ' H' ∧ μ σ' H' < μ σ H, bk := D.nx } σ H1 else D.nx σ H1)
 (mono : ∀ σ H Q Q', (∀ b H1, Q b H1 → Q' b H1) → c σ H Q → c σ H Q') : tWhile c tb D σ H := by
 refine ⟨fun m σ H => m = μ σ H ∧ Pv σ H, ⟨_, rfl, h0⟩, ?_⟩
 rintro m σ H ⟨rfl, p⟩
 refine mono σ H _ _ (fun b H1 q => ?_) (hs σ H p)
 cases b with
 | true => exact ⟨_, fun σ' H' ⟨p', l⟩ => ⟨_, l, rfl, p'⟩, q⟩
 | false => exact q
end L2
namespace L2
open PySem PySem.Spec PyProof.Rows
abbrev R2 := V → V → Hp → VK → Prop
def OpR (X : Cx) (f : Value → Value → Sem Value) (r : R2) : Prop :=
 ∀ (pins : Q3) (s : Shared) (σ : St) (H : Hp) (x y : V) (v u : Value) (Q : VK), Inv X pins σ H s → RelV x v → RelV y u → r x y H Q →
   wpAny (model X.prog X.w) X.A (f v u) (EP X pins σ Q) X.xe s
def UnR (X : Cx) (f : Value → Sem Value) (r : V → Hp → VK → Prop) : Prop :=
 ∀ (pins : Q3) (s : Shared) (σ : St) (H : Hp) (x : V) (v : Value) (Q : VK), Inv X pins σ H s → RelV x v → r x H Q →
   wpAny (model X.prog X.w) X.A (f v) (EP X pins σ Q) X.xe s
def CallR (X : Cx) (f : Value) (r : List V → Hp → VK → Prop) : Prop :=
 ∀ (pins : Q3) (s : Shared) (σ : St) (H : Hp) (xs : List V) (us : List Value) (Q : VK), Inv X pins σ H s → Vals xs us → r xs H Q →
   wpAny (model X.prog X.w) X.A (call f us) (EP X pins σ Q) X.xe s
def tOp (r : R2) (ta tb : TE) : TE := fun σ H Q => ta σ H fun x H1 => tb σ H1 fun y H2 => r x y H2 Q
def tUn (r : V → Hp → VK → Prop) (ta : TE) : TE := fun σ H Q => ta σ H fun x H1 => r x H1 Q
def rI (C : Int → Int → Prop) (g : Int → Int → V) : R2 := fun x y H Q => ∃ i j, x = .int i ∧ y = .int j ∧ C i j ∧ Q (g i j) H
def rI0 (g : Int → Int → V) : R2 := fun x y H Q => ∃ i j, x = .int i ∧ y = .int j ∧ Q (g i j) H
def rU (g : Int → V) : V → Hp → VK → Prop := fun x H Q => ∃ i, x = .int i ∧ Q (g i) H
section
variable {X : Cx} {a b c : Expr} {ta tb tc : TE} {pos : Pos}
theorem binT (ha : PE X a ta) (hb : PE X b tb) {pins : Q3} {s : Shared} {σ : St} {H : Hp} {R : V → V → Hp → Prop} (I : Inv X pins σ H s)
 (h : ta σ H fun x H1 => tb σ H1 fun y H2 => R x y H2) {Q : Q0} {f : Value → Value → Sem Value}
 (hf : ∀ v u s2 x y H2, Inv X pins σ H2 s2 → RelV x v → RelV y u → R x y H2 → wpAny (model X.prog X.w) X.A (f v u) Q X.xe s2) :
 wpAny (model X.prog X.w) X.A (eval a X.env) (fun v s₁ => wpAny (model X.prog X.w) X.A (eval b X.env) (fun u s₂ => wpAny (model X.prog X.w) X.A (f v u) Q X.xe s₂) X.xe s₁) X.xe s := by
 refine thn (ha pins s σ H _ I h) fun v s1 ⟨x, H1, I1, r1, q1⟩ => ?_
 refine thn (hb pins s1 σ H1 _ I1 q1) fun u s2 ⟨y, H2, I2, r2, q2⟩ => ?_
 exact hf v u s2 x y H2 I2 r1 r2 q2
theorem Qal {op : Operator} {r : R2} (ho : OpR X (binaryOp op) r) (ha : PE X a ta) (hb : PE X b tb) : PE X (.BinOp a op b pos) (tOp r ta tb) := by
 intro pins s σ H Q I h
 exact wpAny_BinOp (binT ha hb I h fun v u s2 x y H2 I2 rx ry q => ho pins s2 σ H2 x y v u Q I2 rx ry q)
theorem Qkg {op : UnaryOp} {r : V → Hp → VK → Prop} (ho : UnR X (unaryOp op) r) (ha : PE X a ta) : PE X (.UnaryOp op a pos) (tUn r ta) := by
 intro pins s σ H Q I h
 exact UnaryOp_ (thn (ha pins s σ H _ I h) fun v s1 ⟨x, H1, I1, r1, q1⟩ => ho pins s1 σ H1 x v Q I1 r1 q1)
theorem opI {f : Value → Value → Sem Value} {C : Int → Int → Prop} {g : Int → Int → Int}
 (rule : ∀ (i j : Int) (t u : Tok) (s : Shared) (Q : Q0) (E : Q0), C i j → Q (.int (g i j) s.toks) { s with toks := s.toks + 1 } → wpAny (model X.prog X.w) X.A (f (.int i t) (.int j u)) Q E s) :
 OpR X f (rI C fun i j => .int (g i j)) := by
 intro pins s σ H x y v u Q I rx ry h
 obtain ⟨i, j, rfl, rfl, hc, q⟩ := h
 obtain ⟨t, rfl⟩ := rx
 obtain ⟨t', rfl⟩ := ry
 exact rule i j t t' s _ _ hc ⟨.int (g i j), H, I.tok _, ⟨_, rfl⟩, q⟩
theorem opI0 {f : Value → Value → Sem Value} {g : Int → Int → Int}
 (rule : ∀ (i j : Int) (t u : Tok) (s : Shared) (Q : Q0) (E : Q0), Q (.int (g i j) s.toks) { s with toks := s.toks + 1 } → wpAny (model X.prog X.w) X.A (f (.int i t) (.int j u)) Q E s) :
 OpR X f (rI0 fun i j => .int (g i j)) := by
 intro pins s σ H x y v u Q I rx ry h
 obtain ⟨i, j, rfl, rfl, q⟩ := h
 obtain ⟨t, rfl⟩ := rx
 obtain ⟨t', rfl⟩ := ry
 exact rule i j t t' s _ _ ⟨.int (g i j), H, I.tok _, ⟨_, rfl⟩, q⟩
theorem opB0 {f : Value → Value → Sem Value} {g : Int → Int → Bool}
 (rule : ∀ (i j : Int) (t u : Tok) (s : Shared) (Q : Q0) (E : Q0), Q (.bool (g i j)) s → wpAny (model X.prog X.w) X.A (f (.int i t) (.int j u)) Q E s) :
 OpR X f (rI0 fun i j => .bl (g i j)) := by
 intro pins s σ H x y v u Q I rx ry h
 obtain ⟨i, j, rfl, rfl, q⟩ := h
 obtain ⟨t, rfl⟩ := rx
 obtain ⟨t', rfl⟩ := ry
 exact rule i j t t' s _ _ ⟨.bl (g i j), H, I, rfl, q⟩
def CDiv (i j : Int) : Prop := 0 < j ∧ j < 1073741824
def CPow (i j : Int) : Prop := 0 ≤ j ∧ j ≤ 1000000 ∧ i.natAbs < 2 ^ 64
theorem Qa2 : OpR X (binaryOp .Add) (rI0 fun i j => .int (i + j)) := opI0 fun _ _ _ _ _ _ _ q => add_int q
theorem Qll : OpR X (binaryOp .Sub) (rI0 fun i j => .int (i - j)) := opI0 fun _ _ _ _ _ _ _ q => sub_int q
theorem Qbw : OpR X (binaryOp .FloorDiv) (rI CDiv fun i j => .int (i / j)) := opI fun i j _ _ _ _ _ hc q => by
 have h1 : (0 : Int) < j := hc.1
 have h2 : j < 1073741824 := hc.2
 exact floordiv_int (by omega) (by rw [Int.fdiv_eq_ediv_of_nonneg i (by omega)]; exact q) (.inl (PyProof.noPylong_small (by omega)))
theorem Qau : OpR X (binaryOp .Mod) (rI (fun _ j => 0 < j) fun i j => .int (i % j)) := opI fun i j _ _ _ _ _ hc q => by
 have h1 : (0 : Int) < j := hc
 exact mod_int' (by omega) (by rw [Int.fmod_eq_emod_of_nonneg i (by omega)]; exact q)
theorem op_pow : OpR X (binaryOp .Pow) (rI CPow fun i j => .int (i ^ j.toNat)) := opI fun _ _ _ _ _ _ _ hc q => pow_int_small hc.1 hc.2.1 hc.2.2 q
theorem unI {f : Value → Sem Value} {g : Int → Int}
 (rule : ∀ (i : Int) (t : Tok) (s : Shared) (Q : Q0) (E : Q0), Q (.int (g i) s.toks) { s with toks := s.toks + 1 } → wpAny (model X.prog X.w) X.A (f (.int i t)) Q E s) :
 UnR X f (rU fun i => .int (g i)) := by
 intro pins s σ H x v Q I rx h
 obtain ⟨i, rfl, q⟩ := h
 obtain ⟨t, rfl⟩ := rx
 exact rule i t s _ _ ⟨.int (g i), H, I.tok _, ⟨_, rfl⟩, q⟩
theorem Qgh : UnR X (unaryOp .USub) (rU fun i => .int (-i)) := unI fun _ _ _ _ _ q => neg_int q
end
def scal : V → V → Bool
 | .non, .non => true | .non, .int _ => true | .int _, .non => true | .non, .bl _ => true | .bl _, .non => true | .non, .str _ => true | .str _, .non => true
 | .int _, .int _ => true | .bl _, .bl _ => true | .str _, .str _ => true | .byt _, .byt _ => true
 | .int _, .str _ => true | .str _, .int _ => true | .bl _, .str _ => true | .str _, .bl _ => true
 | _, _ => false
def rEq : R2 := fun x y H Q => scal x y = true ∧ Q (.bl (decide (x = y))) H
def rNe : R2 := fun x y H Q => scal x y = true ∧ Q (.bl (!decide (x = y))) H
theorem Qjm {i j : Int} : decide (V.int i = V.int j) = (i == j) := by
 rw [Bool.eq_iff_iff]
 simp
theorem Ql3 {i j : Bool} : decide (V.bl i = V.bl j) = (i == j) := by
 rw [Bool.eq_iff_iff]
 simp
theorem Qjl {i j : Str} : decide (V.str i = V.str j) = (i == j) := by
 rw [Bool.eq_iff_iff]
 simp
theorem Qjn {i j : Array UInt8} : decide (V.byt i = V.byt j) = (i.toList == j.toList) := by
 rw [Bool.eq_iff_iff]
 cases i
 cases j
 simp
section
variable {X : Cx} {a b c : Expr} {ta tb tc : TE} {pos : Pos}
theorem Qa4 {pins : Q3} {σ : St} {H : Hp} {s : Shared} {Q : VK} {k k' : Bool} (I : Inv X pins σ H s) (q : Q (.bl k) H) (e : k = k') : EP X pins σ Q (.bool k') s := by
 subst e
 exact ⟨.bl k, H, I, rfl, q⟩
theorem Qb4 : OpR X (compareOp .Eq) rEq := by
 intro pins s σ H x y v u Q I rx ry h
 obtain ⟨hs, q⟩ := h
 cases x with
 | non =>
   cases rx
   cases y with
   | non => cases ry; exact PySem.EqNone.eq_none_none (Qa4 I q (by simp))
   | bl j => cases ry; exact PySem.EqNone.eq_none_bool (Qa4 I q (by simp))
   | int j => obtain ⟨t', rfl⟩ := ry; exact PySem.EqNone.eq_none_int (Qa4 I q (by simp))
   | str j => obtain ⟨t', rfl⟩ := ry; exact PySem.EqNone.eq_none_str (Qa4 I q (by simp))
   | _ => exact absurd (show false = true from hs) Bool.false_ne_true
 | bl i =>
   cases rx
   cases y with
   | non => cases ry; exact PySem.EqNone.eq_bool_none (Qa4 I q (by simp))
   | bl j => cases ry; exact eq_bool (Qa4 I q Ql3)
   | str j => obtain ⟨t', rfl⟩ := ry; exact PySem.EqMixed.eq_bool_str (Qa4 I q (by simp))
   | _ => exact absurd (show false = true from hs) Bool.false_ne_true
 | int i =>
   obtain ⟨t, rfl⟩ := rx
   cases y with
   | non => cases ry; exact PySem.EqNone.eq_int_none (Qa4 I q (by simp))
   | int j => obtain ⟨t', rfl⟩ := ry; exact eq_int (Qa4 I q Qjm)
   | str j => obtain ⟨t', rfl⟩ := ry; exact PySem.EqMixed.eq_int_str (Qa4 I q (by simp))
   | _ => exact absurd (show false = true from hs) Bool.false_ne_true
 | str i =>
   obtain ⟨t, rfl⟩ := rx
   cases y with
   | non => cases ry; exact PySem.EqNone.eq_str_none (Qa4 I q (by simp))
   | bl j => cases ry; exact PySem.EqMixed.eq_str_bool (Qa4 I q (by simp))
   | int j => obtain ⟨t', rfl⟩ := ry; exact PySem.EqMixed.eq_str_int (Qa4 I q (by simp))
   | str j => obtain ⟨t', rfl⟩ := ry; exact eq_str (Qa4 I q Qjl)
   | _ => exact absurd (show false = true from hs) Bool.false_ne_true
 | byt i =>
   obtain ⟨t, rfl⟩ := rx
   cases y with
   | byt j => obtain ⟨t', rfl⟩ := ry; exact PySem.W.eq_bytes (Qa4 I q Qjn)
   | _ => exact absurd (show false = true from hs) Bool.false_ne_true
 | _ => cases y <;> exact absurd (show false = true from hs) Bool.false_ne_true
theorem Qik : OpR X (compareOp .NotEq) rNe := by
 intro pins s σ H x y v u Q I rx ry h
 obtain ⟨hs, q⟩ := h
 cases x with
 | non =>
   cases rx
   cases y with
   | non => cases ry; exact PySem.EqNone.ne_none_none (Qa4 I q (by simp))
   | bl j => cases ry; exact PySem.EqNone.ne_none_bool (Qa4 I q (by simp))
   | int j => obtain ⟨t', rfl⟩ := ry; exact PySem.EqNone.ne_none_int (Qa4 I q (by simp))
   | str j => obtain ⟨t', rfl⟩ := ry; exact PySem.EqNone.ne_none_str (Qa4 I q (by simp))
   | _ => exact absurd (show false = true from hs) Bool.false_ne_true
 | bl i =>
   cases rx
   cases y with
   | non => cases ry; exact PySem.EqNone.ne_bool_none (Qa4 I q (by simp))
   | bl j => cases ry; exact ne_bool (Qa4 I q (congrArg not Ql3))
   | str j => obtain ⟨t', rfl⟩ := ry; exact PySem.EqMixed.ne_bool_str (Qa4 I q (by simp))
   | _ => exact absurd (show false = true from hs) Bool.false_ne_true
 | int i =>
   obtain ⟨t, rfl⟩ := rx
   cases y with
   | non => cases ry; exact PySem.EqNone.ne_int_none (Qa4 I q (by simp))
   | int j => obtain ⟨t', rfl⟩ := ry; exact ne_int (Qa4 I q (congrArg not Qjm))
   | str j => obtain ⟨t', rfl⟩ := ry; exact PySem.EqMixed.ne_int_str (Qa4 I q (by simp))
   | _ => exact absurd (show false = true from hs) Bool.false_ne_true
 | str i =>
   obtain ⟨t, rfl⟩ := rx
   cases y with
   | non => cases ry; exact PySem.EqNone.ne_str_none (Qa4 I q (by simp))
   | bl j => cases ry; exact PySem.EqMixed.ne_str_bool (Qa4 I q (by simp))
   | int j => obtain ⟨t', rfl⟩ := ry; exact PySem.EqMixed.ne_str_int (Qa4 I q (by simp))
   | str j => obtain ⟨t', rfl⟩ := ry; exact ne_str (Qa4 I q (congrArg not Qjl))
   | _ => exact absurd (show false = true from hs) Bool.false_ne_true
 | byt i =>
   obtain ⟨t, rfl⟩ := rx
   cases y with
   | byt j => obtain ⟨t', rfl⟩ := ry; exact PySem.W.ne_bytes (Qa4 I q (congrArg not Qjn))
   | _ => exact absurd (show false = true from hs) Bool.false_ne_true
 | _ => cases y <;> exact absurd (show false = true from hs) Bool.false_ne_true
theorem Qkj : OpR X (compareOp .Lt) (rI0 fun i j => .bl (decide (i < j))) := opB0 fun _ _ _ _ _ _ _ q => lt_int q
theorem op_gt : OpR X (compareOp .Gt) (rI0 fun i j => .bl (decide (j < i))) := opB0 fun _ _ _ _ _ _ _ q => gt_int q
theorem Qf2 : OpR X (compareOp .IsNot) (fun x y H Q => y = .non ∧ Q (.bl (!decide (x = .non))) H) := by
 intro pins s σ H x y v u Q I rx ry h
 obtain ⟨rfl, q⟩ := h
 cases ry
 refine isnot_none_gen (Qa4 I q ?_)
 cases x <;> first
  | (cases rx; rfl)
  | (obtain ⟨t, rfl⟩ := rx; rfl)
theorem nomark (b : Expr) {op : CmpOp} (h : op ≠ .In := by decide) (h2 : op ≠ .NotIn := by decide) : behindInMarks op b = false := by
 have e1 : (op == CmpOp.In) = false := by cases op <;> first | rfl | exact absurd rfl h
 have e2 : (op == CmpOp.NotIn) = false := by cases op <;> first | rfl | exact absurd rfl h2
 cases b <;> simp [behindInMarks, e1, e2]
theorem Qbz {op : CmpOp} {r : R2} (ho : OpR X (compareOp op) r) (ha : PE X a ta) (hb : PE X b tb) (hm : behindInMarks op b = false) : PE X (.Compare a [op] [b] pos) (tOp r ta tb) := by
 intro pins s σ H Q I h
 exact wpAny_Compare1 (binT ha hb I h fun v u s2 x y H2 I2 rx ry q => ho pins s2 σ H2 x y v u Q I2 rx ry q) hm
def tTest (t : TE) : TT := fun σ H Q => t σ H fun x H' => ∃ k, x = .bl k ∧ Q k H'
theorem Qao {op : CmpOp} {r : R2} (ho : OpR X (compareOp op) r) (ha : PE X a ta) (hb : PE X b tb) (hm : behindInMarks op b = false) : PT X (.Compare a [op] [b] pos) (tTest (tOp r ta tb)) := by
 intro pins s σ H Q I h
 refine wpAny_isTrue_Compare1 (thn (ha pins s σ H _ I h) fun v s1 ⟨x, H1, I1, r1, q1⟩ => thn (hb pins s1 σ H1 _ I1 q1) fun u s2 ⟨y, H2, I2, r2, q2⟩ =>
  thn (ho pins s2 σ H2 x y v u _ I2 r1 r2 q2) fun c s3 ⟨z, H3, I3, r3, k, e, q3⟩ => ?_) hm
 subst e
 cases r3
 exact wpAny_truthy_bool ⟨H3, I3, q3⟩
theorem line63 : (sizeLine : Nat) < 2 ^ 63 := by rw [sizeLine_eq]; decide
theorem vals1 {x : V} {us : List Value} (r : Vals [x] us) : ∃ u, us = [u] ∧ RelV x u := by
 cases r with
 | cons r1 r2 => cases r2; exact ⟨_, rfl, r1⟩
theorem vals2 {x y : V} {us : List Value} (r : Vals [x, y] us) : ∃ u w', us = [u, w'] ∧ RelV x u ∧ RelV y w' := by
 cases r with
 | cons r1 r2 =>
   cases r2 with
   | cons r3 r4 => cases r4; exact ⟨_, _, rfl, r1, r3⟩
theorem Qjq (hc : X.calm = true) : CallR X (.builtin "min") (fun xs H Q => ∃ i j, xs = [.int i, .int j] ∧ Q (.int (if j < i then j else i)) H) := by
 intro pins s σ H xs us Q I r h
 obtain ⟨i, j, rfl, q⟩ := h
 obtain ⟨u, w', rfl, ⟨t, rfl⟩, ⟨t', rfl⟩⟩ := vals2 r
 refine min_two_ints (I.ok.hd hc) fun h' tk k => ⟨_, H, I.kept k, ?_, q⟩
 by_cases hj : j < i
 ·rw [if_pos hj, if_pos hj]; exact ⟨_, rfl⟩
 ·rw [if_neg hj, if_neg hj]; exact ⟨_, rfl⟩
theorem Qjr : CallR X (.type "int") (fun xs H Q => (∃ i, xs = [.int i] ∧ Q (.int i) H) ∨ ∃ k, xs = [.bl k] ∧ Q (.int (if k then 1 else 0)) H) := by
 intro pins s σ H xs us Q I r h
 rcases h with ⟨i, rfl, q⟩ | ⟨k, rfl, q⟩
 ·obtain ⟨u, rfl, t, rfl⟩ := vals1 r
  exact call_int_int ⟨.int i, H, I, ⟨_, rfl⟩, q⟩
 ·obtain ⟨u, rfl, r1⟩ := vals1 r
  cases r1
  exact call_int_bool ⟨.int (if k then 1 else 0), H, I.tok _, ⟨_, rfl⟩, q⟩
end
end L2
namespace L2
open PySem PySem.Spec PyProof.Rows
structure ObjM (h : Heap) (x dx C : Addr) (mA : Str → Option Value) : Prop where
 obj : h.get? x = some (PySem.W.instObj C dx)
 ns : h.Ns1 dx mA
 ne : dx ≠ x
theorem Qiu {h : Heap} {dx : Addr} {mA : Str → Option Value} (n : h.Ns1 dx mA) : ∃ od, h.get? dx = some od ∧ ∀ name, PySem.W.lookIn name od = some (mA name) := by
 obtain ⟨o, es, ep, ho, hd, hk, _, hm⟩ := n
 refine ⟨o, ho, fun name => ?_⟩
 have e := hm name
 unfold nsFind findBy at e
 rw [← Array.find?_toList] at e
 unfold PySem.W.lookIn
 rw [hd]
 dsimp only
 split
 ·rename_i y q
  rw [q] at e
  exact congrArg some e
 ·rename_i q
  rw [q] at e
  have a : es.toList.any (·.refKey) = false := by
   rw [List.any_eq_false]
   intro y hy
   obtain ⟨z, t, hkey⟩ := hk y (Array.mem_toList_iff.mp hy)
   simp [DictEntry.refKey, hkey]
  have a' : ¬ es.toList.any (·.refKey) = true := by rw [a]; exact Bool.false_ne_true
  rw [if_neg a']
  exact congrArg some e
theorem ObjM.look {h : Heap} {x dx C : Addr} {mA : Str → Option Value} (I : ObjM h x dx C mA) : ∃ od, PySem.W.InstAt h x (PySem.W.instObj C dx) C (some od) ∧ ∀ name, PySem.W.lookIn name od = some (mA name) :=
 let ⟨od, ho, hl⟩ := Qiu I.ns
 ⟨od, ⟨I.obj, rfl, rfl, ho⟩, hl⟩
section
variable {prog : Program} {w : World} {A : Around} {E : Q0} {s : Shared} {K : Q4} {x dx C f : Addr} {mA : Str → Option Value} {name : Str} {v : Value}
end
def putF (f : Str) (v : V) : List (Str × V) → List (Str × V)
 | [] => [(f, v)]
 | (g, x) :: r => if g = f then (g, v) :: r else (g, x) :: putF f v r
theorem Qc1 (f g : Str) (v : V) : ∀ fs : List (Str × V), (putF f v fs).lookup g = if g = f then some v else fs.lookup g
 | [] => by
   show List.lookup g [(f, v)] = _
   by_cases h : g = f
   ·have hb : (g == f) = true := beq_iff_eq.mpr h
    simp only [List.lookup, hb, if_pos h]
   ·have hb : (g == f) = false := beq_eq_false_iff_ne.mpr h
    simp only [List.lookup, hb, if_neg h]
 | (k, x) :: r => by
   have ih := Qc1 f g v r
   rw [show putF f v ((k, x) :: r) = (if k = f then (k, v) :: r else (k, x) :: putF f v r) from rfl]
   by_cases hk : k = f
   ·rw [if_pos hk]
    by_cases h : g = k
    ·have hb : (g == k) = true := beq_iff_eq.mpr h
     simp only [List.lookup, hb, if_pos (h.trans hk)]
    ·have hb : (g == k) = false := beq_eq_false_iff_ne.mpr h
     simp only [List.lookup, hb, if_neg (fun e : g = f => h (e.trans hk.symm))]
   ·rw [if_neg hk]
    by_cases h : g = k
    ·have hb : (g == k) = true := beq_iff_eq.mpr h
     simp only [List.lookup, hb, if_neg (fun e : g = f => hk (h.symm.trans e))]
    ·have hb : (g == k) = false := beq_eq_false_iff_ne.mpr h
     simp only [List.lookup, hb]
     exact ih
theorem RelO.Qcv {v : V} {o : Option Value} (r : RelO (some v) o) : ∃ u, o = some u ∧ RelV v u := by
 cases o with
 | none => exact (show False from r).elim
 | some u => exact ⟨u, rfl, r⟩
theorem RelO.Qmt {o : Option Value} (r : RelO none o) : o = none := by
 cases o with
 | none => rfl
 | some u => exact (show False from r).elim
theorem Qje {v : V} {u : Value} (r : RelV v u) : PySem.W.handedIn u = true := by
 cases v with
 | non => cases (show u = Value.none from r); rfl
 | bl b => cases (show u = Value.bool b from r); rfl
 | int i => obtain ⟨t, e⟩ := (show ∃ t, u = Value.int i t from r); cases e; rfl
 | str x => obtain ⟨t, e⟩ := (show ∃ t, u = Value.str x t from r); cases e; rfl
 | byt b => obtain ⟨t, e⟩ := (show ∃ t, u = Value.bytes b t from r); cases e; rfl
 | flt b => obtain ⟨t, e⟩ := (show ∃ t, u = Value.float b t from r); cases e; rfl
 | ref a => cases (show u = Value.ref a from r); rfl
 | ty n => cases (show u = Value.type n from r); rfl
section
variable {P : Program} {w : World} {H H' : Hp} {h h' : Heap} {a C dx : Addr} {fs fs' : List (Str × V)}
theorem Qm6 (hok : HOk P w H h) (e : H a = some (.ins C dx fs)) : ∃ mA, ObjM h a dx C mA ∧ (∀ f, RelO (fs.lookup f) (mA f)) ∧ PySem.Within mA (fs.map (·.1)) ∧ fs.length ≤ 1000 ∧ H dx = some (.own a) := by
 obtain ⟨d, z, ne, ob, mA, n, r, q⟩ := (show ObjOk P w H h a (.ins C dx fs) from hok a _ e)
 exact ⟨mA, ⟨ob, n, ne⟩, r, q, z, d⟩
end
structure Cls (K : Q4) (C : Addr) : Prop where
 pg : PySem.W.plainGet K C Str.empty = true
 hd : PySem.W.hasDictIn K C = true
 po : PySem.W.plainOver K C = true
 sa : findIn K (.ref C) "__setattr__" = some (some (.builtin "object.__setattr__"))
theorem Cls.get {K : Q4} {C : Addr} (c : Cls K C) (f : Str) : PySem.W.plainGet K C f = true := c.pg
def NoAttr (K : Q4) (C : Addr) (f : Str) : Prop := findIn K (.ref C) f = some none
section
variable {X : Cx} {pins : Q3} {σ : St} {H : Hp} {s : Shared} {a C dx : Addr} {fs : List (Str × V)} {f : Str} {v : V} {A : Around} {E : Q0}
theorem Qnv {prog : Program} {w : World} {env : Env} {e : Expr} {f : Str} {pos : Pos} {s : Shared} {Q : Q0} (hb : attributeBase e f env (eval e env) = eval e env)
 (h : wpAny (model prog w) A (eval e env) (fun o s₁ => wpAny (model prog w) A (getAttr o f true) Q E s₁) E s) : wpAny (model prog w) A (eval (.Attribute e f pos) env) Q E s :=
 Attribute_any_ h (by rw [arm_eval_Attribute, hb])
end
section
variable {X : Cx} {o e value : Expr} {f : Str} {pos pos' tpos : Pos} {ta tv : TE}
end
section
variable {X : Cx} {pins : Q3} {σ : St} {H : Hp} {s : Shared} {A : Around} {E : Q0} {Q : Q0} {c : Value} {b : Bool}
inductive TyOf (K : Q4) (H : Hp) : V → Value → Prop where
 | non : TyOf K H .non (.type "NoneType")
 | bl (x : Bool) : TyOf K H (.bl x) (.type "bool")
 | int (i : Int) : TyOf K H (.int i) (.type "int")
 | str (x : Str) : TyOf K H (.str x) (.type "str")
 | flt (x : UInt64) : TyOf K H (.flt x) (.type "float")
 | lst {a : Addr} {xs : List V} (e : H a = some (.lst xs)) : TyOf K H (.ref a) (.type "list")
 | frz {a : Addr} {o : Obj} {xs : List V} (e : H a = some (.frz o (.lst xs))) : TyOf K H (.ref a) (.type "list")
 | tup {a : Addr} {xs : List V} (e : H a = some (.tup xs)) : TyOf K H (.ref a) (.type "tuple")
 | dK {a : Addr} {kvs : List (Key × V)} (e : H a = some (.dK kvs)) : TyOf K H (.ref a) (.type "dict")
 | dT {a : Addr} {kvs : List (List Key × V)} (e : H a = some (.dT kvs)) : TyOf K H (.ref a) (.type "dict")
 | ins {a C dx : Addr} {fs : List (Str × V)} (e : H a = some (.ins C dx fs)) (cl : Cls K C) (ha : findIn K (.ref C) "__class__" = some (some (.builtin "object.__class__")))
  (hn : PySem.W.specialIn K (.builtin "object.__class__") "__get__" = some (some (.builtin "getset_descriptor.__get__"))) (htk : PySem.W.takesIn K (.builtin "object.__class__") = some true)
  (hm : PySem.W.mroIn K C (.type "object") = some true) : TyOf K H (.ref a) (.ref C)
theorem Qi5 {x : V} {u t : Value} (I : Inv X pins σ H s) (rx : RelV x u) (ty : TyOf X.K H x t) (e : kitOne X.K t c = some b) (h : ∀ tk, Q (.bool b) { s with toks := tk }) :
 wpAny (model X.prog X.w) A (call (.builtin "isinstance") [u, c]) Q E s := by
 cases ty with
 | non => cases (show u = Value.none from rx); exact PySem.W.kia_one PySem.W.kitx_none I.kIn True.intro e (fun z => nomatch z) h
 | bl y => cases (show u = Value.bool y from rx); exact PySem.W.kia_one PySem.W.kitx_bool I.kIn True.intro e (fun z => nomatch z) h
 | int i => obtain ⟨t, q⟩ := (show ∃ t, u = Value.int i t from rx); cases q; exact PySem.W.kia_one PySem.W.kitx_int I.kIn True.intro e (fun z => nomatch z) h
 | str y => obtain ⟨t, q⟩ := (show ∃ t, u = Value.str y t from rx); cases q; exact PySem.W.kia_one PySem.W.kitx_str I.kIn True.intro e (fun z => nomatch z) h
 | flt y => obtain ⟨t, q⟩ := (show ∃ t, u = Value.float y t from rx); cases q; exact PySem.W.kia_one PySem.W.kitx_float I.kIn True.intro e (fun z => nomatch z) h
 | @lst a xs ea =>
   cases (show u = Value.ref a from rx)
   obtain ⟨_, _, n, _, h1⟩ := (show ObjOk X.prog X.w H s.heap a (.lst xs) from I.hok a _ ea)
   exact PySem.W.kia_one PySem.W.kitx_list I.kIn ⟨_, h1, rfl⟩ e (fun z => nomatch z) h
 | @frz a ob xs ea =>
   cases (show u = Value.ref a from rx)
   obtain ⟨_, _, _, n, _, h1⟩ := (show ObjOk X.prog X.w H s.heap a (.frz ob (.lst xs)) from I.hok a _ ea)
   exact PySem.W.kia_one PySem.W.kitx_list I.kIn ⟨_, h1, rfl⟩ e (fun z => nomatch z) h
 | @tup a xs ea =>
   cases (show u = Value.ref a from rx)
   obtain ⟨_, _, _, p⟩ := (show ObjOk X.prog X.w H s.heap a (.tup xs) from I.hok a _ ea)
   obtain ⟨o, h1, h2, _⟩ := p
   exact PySem.W.kia_one PySem.W.kitx_tuple I.kIn ⟨o, h1, h2⟩ e (fun z => nomatch z) h
 | @dK a kvs ea =>
   cases (show u = Value.ref a from rx)
   obtain ⟨_, _, vs, _, p⟩ := (show ObjOk X.prog X.w H s.heap a (.dK kvs) from I.hok a _ ea)
   obtain ⟨o, es, ep, h1, h2, _⟩ := p
   exact PySem.W.kia_one PySem.W.kitx_dict I.kIn ⟨o, h1, h2.1⟩ e (fun z => nomatch z) h
 | @dT a kvs ea =>
   cases (show u = Value.ref a from rx)
   obtain ⟨_, _, xs, _, o, es, ep, h1, h2, _⟩ := (show ObjOk X.prog X.w H s.heap a (.dT kvs) from I.hok a _ ea)
   exact PySem.W.kia_one PySem.W.kitx_dict I.kIn ⟨o, h1, h2.1⟩ e (fun z => nomatch z) h
 | @ins a C dx fs ea cl ha hn htk hm =>
   cases (show u = Value.ref a from rx)
   obtain ⟨mA, O, _⟩ := Qm6 I.hok ea
   obtain ⟨od, J, _⟩ := O.look
   exact PySem.W.kia_one (PySem.W.kitx_own (cl.get _) cl.hd ha hn htk hm) I.kIn J e (fun z => nomatch z) h
end
end L2
namespace L2
open PySem PySem.Spec PyProof.Rows
structure Room (cm : Bool) (k : Nat) (A : Around) : Prop where
 hd : cm = true → A.handled = none
 dp : A.depth + 3 * k + 5 < recursionLimit
 un : A.units + 16 * k + 200 < cLine
theorem Room.mono {cm : Bool} {j k : Nat} {A : Around} (r : Room cm k A) (h : j ≤ k) : Room cm j A := ⟨r.hd, by have := r.dp; omega, by have := r.un; omega⟩
theorem Room.deeper {cm : Bool} {k : Nat} {A : Around} (r : Room cm (k + 1) A) (env : Env) : Room cm k (A.deeper env) :=
 ⟨r.hd, by have := r.dp; show A.depth + 1 + 3 * k + 5 < _; omega, by have := r.un; show A.units + 3 + 16 * k + 200 < _; omega⟩
theorem Qhl {A : Around} {C : Addr} {us : List Value} {kw : List (Str × Value)} : (A.under (.builtin "type.__call__" ⟨.ref C :: us, kw⟩)).depth = A.depth + 1 := by
 first | rfl | simp [Around.under, Code.weight, Code.isCreation, Code.isGuard, Code.isCaller, Code.frames, Code.isFrame, guardIds]
theorem Qhk {A : Around} {C : Addr} {us : List Value} {kw : List (Str × Value)} : (A.under (.builtin "type.__call__" ⟨.ref C :: us, kw⟩)).units = A.units + 1 := by
 first | rfl | simp [Around.under, Code.cUnits, Code.frames, Code.isFrame]
theorem Room.make {cm : Bool} {k : Nat} {A : Around} (r : Room cm (k + 1) A) (C : Addr) (us : List Value) (kw : List (Str × Value)) : Room cm k (A.under (.builtin "type.__call__" ⟨.ref C :: us, kw⟩)) :=
 ⟨r.hd, by have := r.dp; rw [Qhl]; omega, by have := r.un; rw [Qhk]; omega⟩
theorem Room.depth {cm : Bool} {k : Nat} {A : Around} (r : Room cm k A) : A.depth < recursionLimit := by have := r.dp; omega
theorem Room.units {cm : Bool} {k : Nat} {A : Around} (r : Room cm k A) : A.units + 64 < cLine := by have := r.un; omega
def tNil : TA := fun _ H Q => Q [] H
def tCons (ta : TE) (tr : TA) : TA := fun σ H Q => ta σ H fun x H1 => tr σ H1 fun xs H2 => Q (x :: xs) H2
section
variable {X : Cx} {e : Expr} {es : List Expr} {te : TE} {t : TA} {pos : Pos}
theorem Qad : PA X [] tNil := fun _ _ _ _ H Q I h => Calls.spliced_nil ⟨[], H, I, .nil, h⟩
theorem Qaa (ha : PE X e te) (hr : PA X es t) (hs : starEach (e :: es) X.env = (false, eval e X.env) :: starEach es X.env := by rfl) : PA X (e :: es) (tCons te t) := by
 intro pos pins s σ H Q I h
 rw [hs]
 show wpAny _ _ (spliced ((false, eval e X.env) :: backTo pos (starEach es X.env))) _ _ s
 refine Calls.spliced_cons (thn (ha pins s σ H _ I h) fun u s1 ⟨x, H1, I1, r1, q1⟩ => ?_)
 exact thn (hr pos pins s1 σ H1 _ I1 q1) fun us s2 ⟨xs, H2, I2, r2, q2⟩ => ⟨x :: xs, H2, I2, .cons r1 r2, q2⟩
def tTup (t : TA) : TE := fun σ H Q => t σ H fun xs H1 => xs.length ≤ sizeLine ∧ ∀ p, H1 p = none → Q (.ref p) (upd H1 p (.tup xs))
def tLst (t : TA) : TE := fun σ H Q => t σ H fun xs H1 => xs.length ≤ sizeLine ∧ ∀ p, H1 p = none → Q (.ref p) (upd H1 p (.lst xs))
theorem Qbp {x1} (h : PA X es t) : PE X (.Tuple es x1 pos) (tTup t) := by
 intro pins s σ H Q I hq
 refine wpAny_Tuple_spliced (thn (h pos pins s σ H _ I hq) fun us s1 ⟨xs, H1, I1, r, z, q⟩ => ⟨by rw [← r.length]; exact z, ?_⟩)
 have hf : H1 s1.heap.objs.size = none := I1.hok.fresh (Nat.le_refl _)
 refine ⟨.ref s1.heap.objs.size, upd H1 s1.heap.objs.size (.tup xs), I1.laid (t' := s1.toks) (fun b u e => Heap.get?_push_of_some _ e) (Nat.le_refl _) ?_, rfl, q _ hf⟩
 exact ⟨z, us, r, ⟨_, Heap.get?_push_size _ rfl, rfl, _, rfl⟩⟩
theorem Qba (h : PA X es t) : PE X (.List es pos) (tLst t) := by
 intro pins s σ H Q I hq
 refine wpAny_List_spliced (thn (h pos pins s σ H _ I hq) fun us s1 ⟨xs, H1, I1, r, z, q⟩ => ⟨by rw [← r.length]; exact z, ?_⟩)
 have hf : H1 s1.heap.objs.size = none := I1.hok.fresh (Nat.le_refl _)
 refine ⟨.ref s1.heap.objs.size, upd H1 s1.heap.objs.size (.lst xs), I1.laid (t' := s1.toks) (fun b u e => Heap.get?_push_of_some _ e) (Nat.le_refl _) ?_, rfl, q _ hf⟩
 exact ⟨z, us, 0, r, Heap.get?_push_size _ rfl⟩
end
abbrev Sp := List V → Hp → VK → XK → Prop
abbrev CXT := List Env → Hp → Shared → XK → Value → Shared → Prop
structure Env0 (P : Program) (w : World) (K : Q4) (mg : Str → Option Value) (base : Heap) (A : Around) (outer : List Env) (s : Shared) (H : Hp) : Prop where
 frames : A.frames = some outer
 mod : Mod K mg base
 bs : ∀ b o, base.get? b = some o → s.heap.get? b = some o ∧ H b = none
 bsz : base.objs.size ≤ s.heap.objs.size
 funs : s.heap.FunFrames base outer
 frf : ∀ b ∈ frs outer, H b = none
 hok : HOk P w H s.heap
 bare : AllBare s.gens
def CE (outer : List Env) (P : Program) (w : World) (H : Hp) (s : Shared) (Q : VK) (u : Value) (s' : Shared) : Prop :=
 ∃ v H', s'.os = s.os ∧ AllBare s'.gens ∧ Un (frs outer) [] H H' s.heap s'.heap ∧ HOk P w H' s'.heap ∧ RelV v u ∧ Q v H'
def CR (CX : CXT) (outer : List Env) (P : Program) (w : World) (H : Hp) (s : Shared) (Q : VK) (E : XK) (r : Result) (s' : Shared) : Prop :=
 match r with
 | .ok (.ret u) => CE outer P w H s Q u s'
 | .ok _ => False
 | .error e => CX outer H s E e s'
structure FnOk (P : Program) (w : World) (K : Q4) (mg : Str → Option Value) (base : Heap) (CX : CXT) (cm : Bool) (k : Nat) (f : Addr) (fd : FuncData) (ps : List Str) (sp : Sp) : Prop where
 len : ∀ vs H Q E, sp vs H Q E → vs.length = ps.length
 run : ∀ (A : Around) (outer : List Env) (s : Shared) (H : Hp) (args : Args) (us : List Value) (vs : List V) (Q : VK) (E : XK), Room cm k A → Env0 P w K mg base A outer s H → BindsTo s fd args (ps.zip us) → Vals vs us → sp vs H Q E →
  codeAny (model P w) A (.call (.ref f) args) (CR CX outer P w H s Q E) s
theorem Env0.make {P : Program} {w : World} {K : Q4} {mg : Str → Option Value} {base : Heap} {A : Around} {outer : List Env} {s : Shared} {H : Hp} (e : Env0 P w K mg base A outer s H) (C : Addr) (us : List Value) (kw : List (Str × Value)) :
 Env0 P w K mg base (A.under (.builtin "type.__call__" ⟨.ref C :: us, kw⟩)) outer s H := ⟨by first | exact e.frames | (simpa [Around.under, Code.envs, Code.isFrame, pushEnvs] using e.frames), e.mod, e.bs, e.bsz, e.funs, e.frf, e.hok, e.bare⟩
section
variable {X : Cx} {pins : Q3} {σ : St} {H : Hp} {s s' : Shared}
theorem Inv.env0 (I : Inv X pins σ H s) : Env0 X.prog X.w X.K X.mg X.base X.A X.stack s H :=
 ⟨I.ok.frames, I.ok.mod, I.bs, Nat.le_trans I.ok.bsz I.sz, I.stack, I.stkFree, I.hok, I.bare⟩
theorem Inv.after {Q : VK} {u : Value} (I : Inv X pins σ H s) (h : CE X.stack X.prog X.w H s Q u s') : EP X pins σ Q u s' := by
 obtain ⟨v, H', os, bare, un, hok, r, q⟩ := h
 obtain ⟨hh, g, d, t, os'⟩ := s'
 obtain rfl : os' = s.os := os
 exact ⟨v, H', I.call (h' := hh) (g' := g) (d' := d) (t' := t) (ch := []) un hok bare (fun b z => absurd z (by simp)), r, q⟩
end
def tCall (sp : Sp) (dvs : List V) (E : XK) (t : TA) : TE := fun σ H Q => t σ H fun vs H1 => sp (vs ++ dvs) H1 Q E
def Binds (K : Q4) (fd : FuncData) (ps : List Str) (ds : List Value) : Prop :=
 ∀ (s : Shared) (us : List Value), K.In s.heap → (us ++ ds).length = ps.length → BindsTo s fd ⟨us, []⟩ (ps.zip (us ++ ds))
theorem Binds.all {K : Q4} {fd : FuncData} {ps : List Str} (h : ∀ us : List Value, us.length = ps.length → bindArgs fd ⟨us, []⟩ = pure (ps.zip us)) : Binds K fd ps [] := fun s us _ hl => by
 rw [List.append_nil] at hl ⊢
 exact .of_eq (h us hl)
def Passes (CX : CXT) (X : Cx) (E : XK) : Prop := ∀ (pins : Q3) (σ : St) (H : Hp) (s : Shared) (e : Value) (s' : Shared), Inv X pins σ H s → CX X.stack H s E e s' → X.xe e s'
section
variable {X : Cx} {CX : CXT} {cm : Bool} {k : Nat} {f C : Addr} {fd : FuncData} {ps : List Str} {sp : Sp} {dvs : List V} {ds : List Value} {E : XK} {x m : Str} {p pos apos : Pos} {e o : Expr} {es : List Expr} {ta : TE} {t : TA}
theorem run_fn {pins : Q3} {σ : St} {H : Hp} {s : Shared} {Q : VK} {us : List Value} {vs : List V} (F : FnOk X.prog X.w X.K X.mg X.base CX cm k f fd ps sp) (hr : Room cm k X.A) (hb : Binds X.K fd ps ds) (hd : Vals dvs ds) (hx : Passes CX X E)
 (I : Inv X pins σ H s) (r : Vals vs us) (h : sp (vs ++ dvs) H Q E) : wpAny (model X.prog X.w) X.A (call (.ref f) us) (EP X pins σ Q) X.xe s := by
 have r2 : Vals (vs ++ dvs) (us ++ ds) := r.append hd
 have hl : (us ++ ds).length = ps.length := by rw [← r2.length]; exact F.len _ _ _ _ h
 refine wpAny_call (codeAny_mono (F.run X.A X.stack s H ⟨us, []⟩ (us ++ ds) (vs ++ dvs) Q E hr I.env0 (hb s us I.kIn hl) r2 h) fun r s' hq => ?_)
 cases r with
 | error e => exact hx pins σ H s e s' I hq
 | ok fl =>
   cases fl with
   | ret u => exact I.after hq
   | next => exact False.elim hq
   | brk => exact False.elim hq
   | cont => exact False.elim hq
theorem Qak (F : FnOk X.prog X.w X.K X.mg X.base CX cm k f fd ps sp) (hr : Room cm k X.A) (hg : Gl X x) (hm : X.mg x = some (.ref f)) (hk : keepIn X.K (.ref f) = true) (hb : Binds X.K fd ps ds) (hd : Vals dvs ds) (hx : Passes CX X E)
 (ha : PA X (e :: es) t) (hdb : (x == ("__debug__" : Str)) = false := by decide) (he : starEach (e :: es) X.env = (false, eval e X.env) :: starEach es X.env := by rfl) (hpl : (backTo pos (starEach es X.env)).any (·.1) = false := by rfl) :
 PE X (.Call (.Name x p) (e :: es) [] pos) (tCall sp dvs E t) := by
 intro pins s σ H Q I h
 refine wpAny_Call_Name_kw (Qc2 I hg hm ?_ hdb)
 refine PySem.W.callWith_K (h₀ := X.base) I.ok.mod.kin hk (thn (ha pos pins s σ H _ I h) fun us s1 ⟨vs, H1, I1, r, q⟩ => ⟨I1.kIn, ?_⟩) he hpl
 exact run_fn F hr hb hd hx I1 r q
end
section
variable {X : Cx} {CX : CXT} {cm : Bool} {k : Nat} {f C : Addr} {fd : FuncData} {ps ks : List Str} {sp : Sp} {E : XK} {x m : Str} {p pos apos kpos : Pos} {e o : Expr} {es : List Expr} {kws : List Keyword} {te ta : TE} {t tk : TA} {nm : Option Str}
variable {g : List Value → List Value → List Value} {gV : List V → List V → List V}
end
structure FnScope (N P : List Str) (sc : Scope) : Prop where
 kind : sc.kind = .function
 co : sc.isCoroutine = false
 gen : sc.isGenerator = false
 nd : N.Nodup
 pre : N.take P.length = P
 par : ∀ x ∈ P, sc.names.lookup x = some .local ∨ sc.names.lookup x = some .cell
 nofree : ∀ y ∈ sc.names, y.2 ≠ .free
theorem fsc {N P : List Str} {sc : Scope} (a : sc.kind = .function := by rfl) (b : sc.isCoroutine = false := by rfl) (c : sc.isGenerator = false := by rfl) (d : N.Nodup := by decide +kernel) (e : N.take P.length = P := by rfl) (g : ∀ x ∈ P, sc.names.lookup x = some .local ∨ sc.names.lookup x = some .cell := by decide +kernel) (i : ∀ y ∈ sc.names, y.2 ≠ .free := by decide +kernel) : FnScope N P sc := ⟨a, b, c, d, e, g, i⟩
theorem Qfm {kindOf : Str → Option NameKind} {x : Str} : ∀ {binds : List (Str × Value)} {m : Str → Option Value}, (∀ v, (x, v) ∉ binds) → bindL kindOf binds m x = m x
 | [], _, _ => rfl
 | (n, v) :: r, m, h => by
   unfold bindL
   rw [Qfm fun w hw => h w (List.mem_cons_of_mem _ hw)]
   split
   ·have : x ≠ n := by rintro rfl; exact h v List.mem_cons_self
    simp [this]
   ·rfl
theorem Qfo {kindOf : Str → Option NameKind} {x : Str} : ∀ {binds : List (Str × Value)} {m : Str → Option Value}, (∀ v, (x, v) ∉ binds) → bindC kindOf binds m x = m x
 | [], _, _ => rfl
 | (n, v) :: r, m, h => by
   unfold bindC
   rw [Qfo fun w hw => h w (List.mem_cons_of_mem _ hw)]
   split
   ·rfl
   ·have : x ≠ n := by rintro rfl; exact h v List.mem_cons_self
    simp [this]
theorem Qfn {kindOf : Str → Option NameKind} {x : Str} {v : Value} : ∀ {P : List Str} {vs : List Value} {i : Nat} {m : Str → Option Value}, P.Nodup → P[i]? = some x → vs[i]? = some v → kindOf x = some .local →
 bindL kindOf (P.zip vs) m x = some v
 | [], _, _, _, _, h, _, _ => by simp at h
 | _ :: _, [], _, _, _, _, h, _ => by simp at h
 | p :: P, w :: vs, 0, m, nd, h1, h2, hk => by
   simp at h1 h2; subst h1; subst h2
   show bindL kindOf ((p, w) :: P.zip vs) m p = _
   unfold bindL
   rw [Qfm fun v hv => (List.nodup_cons.mp nd).1 (List.of_mem_zip hv).1, if_pos hk]
   simp
 | p :: P, w :: vs, i + 1, m, nd, h1, h2, hk => by
   show bindL kindOf ((p, w) :: P.zip vs) m x = _
   unfold bindL
   exact Qfn (i := i) (List.nodup_cons.mp nd).2 (by simpa using h1) (by simpa using h2) hk
theorem Qfp {kindOf : Str → Option NameKind} {x : Str} {v : Value} : ∀ {P : List Str} {vs : List Value} {i : Nat} {m : Str → Option Value}, P.Nodup → P[i]? = some x → vs[i]? = some v → kindOf x ≠ some .local →
 bindC kindOf (P.zip vs) m x = some v
 | [], _, _, _, _, h, _, _ => by simp at h
 | _ :: _, [], _, _, _, _, h, _ => by simp at h
 | p :: P, w :: vs, 0, m, nd, h1, h2, hk => by
   simp at h1 h2; subst h1; subst h2
   show bindC kindOf ((p, w) :: P.zip vs) m p = _
   unfold bindC
   rw [Qfo fun v hv => (List.nodup_cons.mp nd).1 (List.of_mem_zip hv).1, if_neg hk]
   simp
 | p :: P, w :: vs, i + 1, m, nd, h1, h2, hk => by
   show bindC kindOf ((p, w) :: P.zip vs) m x = _
   unfold bindC
   exact Qfp (i := i) (List.nodup_cons.mp nd).2 (by simpa using h1) (by simpa using h2) hk
def start (N : List Str) (vs : List V) : St := vs.map some ++ List.replicate (N.length - vs.length) none
def cxOf (CX : CXT) (cm : Bool) (P : Program) (w : World) (K : Q4) (mg : Str → Option Value) (base : Heap) (N : List Str) (qual : Str) (scope : Scope) (f : Addr) (cd : Value) (A : Around) (outer : List Env) (s : Shared) (H : Hp) (E : XK) : Cx where
 prog := P
 w := w
 K := K
 mg := mg
 base := base
 A := A.deeper (envOfC qual scope s.heap.objs.size f cd)
 N := N
 s₀ := s
 H₀ := H
 env := envOfC qual scope s.heap.objs.size f cd
 outer := outer
 stack := envOfC qual scope s.heap.objs.size f cd :: outer
 ex := []
 calm := cm
 fn := fun _ => true
 pn := []
 xe := fun e s' => wpAny (model P w) (A.deeper (envOfC qual scope s.heap.objs.size f cd)) (leaving (envOfC qual scope s.heap.objs.size f cd) e) (fun _ s'' => CX outer H s E e s'') (fun e' s'' => CX outer H s E e' s'') s'
theorem Qha {sc : Scope} {n : Nat} {x : Str} (h : sc.names.lookup x = some .cell) : ∃ c, (cellsFrom n sc.names []).lookup x = some c := by
 have q := PySem.W.cellsFrom_some sc.names n [] (.inl h)
 exact Option.isSome_iff_exists.mp q
theorem Qi6 {CX : CXT} {cm : Bool} {P : Program} {w : World} {K : Q4} {mg : Str → Option Value} {base : Heap} {N ps : List Str} {qual : Str} {scope : Scope} {f : Addr} {cd : Value} {A : Around} {outer : List Env} {s s1 : Shared} {H : Hp} {E : XK} {us : List Value} {vs : List V}
 (S : FnScope N ps scope) (hd : cm = true → A.handled = none) (e0 : Env0 P w K mg base A outer s H) (hl : vs.length = ps.length) (r : Vals vs us)
 (x : InCallC s s.heap.objs.size (bindL (envOfC qual scope s.heap.objs.size f cd).kindOf (ps.zip us) fun _ => none) (cellsFrom (s.heap.objs.size + 1) scope.names []) (bindC (envOfC qual scope s.heap.objs.size f cd).kindOf (ps.zip us) fun _ => none) s1) :
 Inv (cxOf CX cm P w K mg base N qual scope f cd A outer s H E) [] (start N vs) H s1 := by
 have hpl : ps.length ≤ N.length := by have := congrArg List.length S.pre; rw [List.length_take] at this; omega
 obtain ⟨h1, tk, rfl, hk⟩ := x.done
 have noA : ∀ b : Addr, b ∉ (cxOf CX cm P w K mg base N qual scope f cd A outer s H E).ex := fun b z => absurd (show b ∈ ([] : List Addr) from z) (by simp)
 refine ⟨⟨e0.mod, S.kind, rfl, rfl, Nat.le_refl _, fun y z c h1 h2 => ?_, fun y hy => ?_, fun y c _ h => ?_, hd, Around.frames_deeper e0.frames, .inr ⟨rfl, rfl⟩, fun b z => absurd z (noA b), e0.bs, e0.bsz, fun b _ _ => noA b, fun b z => absurd z (noA b), e0.funs, e0.frf⟩,
  rfl, e0.bare, Un.kept hk, ⟨_, x.toInCall.ns, fun i y v h1 h2 h3 => ?_⟩, fun y c h => ⟨_, x.cell y c h⟩, e0.hok.fresh (Nat.le_refl _), fun y c h => ?_, fun p hp => absurd (show p ∈ ([] : Q3) from hp) (by simp), e0.hok.kept hk, ?_⟩
 ·exact name_of_addr x.apart (PySem.mem_of_lookup h1) (PySem.mem_of_lookup h2)
 ·have hy : scope.names.lookup y = some .cell ∨ scope.names.lookup y = some .free := hy
  rcases hy with hy | hy
  ·exact Qha hy
  ·exact absurd rfl (S.nofree _ (PySem.mem_of_lookup hy))
 ·exact Nat.le_of_lt (x.above y c (PySem.mem_of_lookup h))
 ·have hi : i < vs.length := by
   unfold start at h2
   by_cases hi : i < vs.length
   ·exact hi
   ·rw [List.getElem?_append_right (by simpa using hi)] at h2
    rw [List.getElem?_replicate] at h2
    split at h2 <;> cases h2
  have ha : vs[i]? = some v := by
   unfold start at h2
   rw [List.getElem?_append_left (by simpa using hi), List.getElem?_map] at h2
   cases e : vs[i]? with
   | none => rw [e] at h2; cases h2
   | some a => rw [e] at h2; cases h2; rfl
  obtain ⟨u, hu, rv⟩ := r.get ha
  have hp : ps[i]? = some y := by
   rw [← S.pre, List.getElem?_take_of_lt (by omega)]; exact h1
  have ndP : ps.Nodup := by rw [← S.pre]; exact S.nd.sublist (List.take_sublist _ _)
  refine ⟨u, rv, ?_⟩
  rcases S.par y (List.mem_of_getElem? hp) with k | k
  ·exact .inl ⟨k, Qfn ndP hp hu k⟩
  ·obtain ⟨c, e⟩ := Qha (n := s.heap.objs.size + 1) k
   refine .inr ⟨.inl k, c, e, ?_⟩
   have q := x.cell y c e
   rw [Qfp ndP hp hu (by show scope.names.lookup y ≠ _; rw [k]; decide)] at q
   exact q
 ·exact e0.hok.fresh (Nat.le_of_lt (x.above y c (PySem.mem_of_lookup h)))
 ·unfold start
  show _ = N.length
  rw [List.length_append, List.length_map, List.length_replicate]
  omega
theorem fn_of {CX : CXT} {cm : Bool} {P : Program} {w : World} {K : Q4} {mg : Str → Option Value} {base : Heap} {k : Nat} {f : Addr} {name qual : Str} {params : Arguments} {body : List Stmt} {scope : Scope} {dV kV doc pm cdv ct oc : Value} {an od : Option Addr}
 {osl : Array Q5} {N ps : List Str} {sp : Sp} (lk : K.lookup f = some ⟨oc, od, .func (fnOf name qual params body scope dV kV doc pm an cdv ct), osl⟩) (hcd : codeIn K cdv qual = true) (S : FnScope N ps scope)
 (len : ∀ vs H Q E, sp vs H Q E → vs.length = ps.length)
 (hbody : ∀ (A : Around) (outer : List Env) (s : Shared) (H : Hp) (vs : List V) (Q : VK) (E : XK), Room cm k (A.deeper (envOfC qual scope s.heap.objs.size f cdv)) → sp vs H Q E →
  ∃ t, PSs (cxOf CX cm P w K mg base N qual scope f cdv A outer s H E) body t ∧ t { nx := fun _ H' => Q .non H', rt := Q } (start N vs) H) :
 FnOk P w K mg base CX cm (k + 1) f (fnOf name qual params body scope dV kV doc pm an cdv ct) ps sp := by
 refine ⟨len, fun A outer s H args us vs Q E hr e0 hb r hsp => ?_⟩
 have hl := len _ _ _ _ hsp
 have KX : K.In s.heap := e0.mod.kin.keeps fun b o e => (e0.bs b o e).1
 have lim : s.heap.NoLimit := e0.mod.nolimit.keeps fun b o e => (e0.bs b o e).1
 have hkind : ∀ y ∈ ps.zip us, scope.names.lookup y.1 = some .local ∨ (scope.names.lookup y.1 = some .cell ∧ ((cellsFrom (s.heap.objs.size + 1) scope.names []).lookup y.1).isSome = true) := fun ⟨n, v⟩ hy => by
  rcases S.par n (List.of_mem_zip hy).1 with q | q
  ·exact .inl q
  ·exact .inr ⟨q, PySem.W.cellsFrom_some _ _ _ (.inl q)⟩
 refine codeAny_call_function hr.depth (KX _ _ lk) rfl S.co S.gen rfl (PySem.W.codeRec_of KX hcd) (hb _ _ _ _ ?_)
 refine wpAny_newFunctionEnv_cells S.kind hkind fun env he s1 x => ?_
 subst he
 refine ⟨lim.keeps x.toInCall.keep, codeAny_func ?_⟩
 obtain ⟨t, ht, hq⟩ := hbody A outer s H vs Q E (hr.deeper _) hsp
 have I : Inv (cxOf CX cm P w K mg base N qual scope f cdv A outer s H E) [] (start N vs) H s1 := Qi6 S hr.hd e0 hl r x
 refine wpAny_mono (ht [] s1 (start N vs) H _ I hq) (fun fl s' hs => ?_) fun e s' hs => hs
 have fin : ∀ {σ' : St} {H' : Hp} {v : V} {u : Value}, Inv (cxOf CX cm P w K mg base N qual scope f cdv A outer s H E) [] σ' H' s' → RelV v u → Q v H' → CE outer P w H s Q u s' :=
  fun {σ' H' v u} J rv q => ⟨v, H', J.os, J.bare, J.base, J.hok, rv, q⟩
 cases fl with
 | ret u =>
   obtain ⟨v, σ', H', J, rv, q⟩ := hs
   exact fin J rv q
 | next =>
   obtain ⟨σ', H', J, q⟩ := hs
   exact fin (v := V.non) (u := Value.none) J rfl q
 | brk =>
   obtain ⟨_, _, _, q⟩ := hs
   exact False.elim q
 | cont =>
   obtain ⟨_, _, _, q⟩ := hs
   exact False.elim q
end L2
namespace L2
open PySem PySem.Spec PyProof.Rows
section
variable {X : Cx} {x : Str} {p pos : Pos} {e : Expr} {es : List Expr} {t : TA} {id T : String} {r : List V → Hp → VK → Prop}
def tCB (r : List V → Hp → VK → Prop) (t : TA) : TE := fun σ H Q => t σ H fun vs H1 => r vs H1 Q
theorem Qan (hc : CallR X (.builtin id) r) (hg : Gl X x) (hm : X.mg x = none) (hv : bootBuiltins x = some (.builtin id)) (ha : PA X (e :: es) t) (hn : x ≠ "__name__" := by decide) (hdb : (x == ("__debug__" : Str)) = false := by decide)
 (he : starEach (e :: es) X.env = (false, eval e X.env) :: starEach es X.env := by rfl) (hpl : (backTo pos (starEach es X.env)).any (·.1) = false := by rfl) : PE X (.Call (.Name x p) (e :: es) [] pos) (tCB r t) := by
 intro pins s σ H Q I h
 refine wpAny_Call_Name_kw (Qdi I hg hm hv ?_ hn hdb)
 exact PyProof.Rows.callWith_builtin1 (thn (ha pos pins s σ H _ I h) fun us s1 ⟨vs, H1, I1, r1, q1⟩ => hc pins s1 σ H1 vs us Q I1 r1 q1) he hpl
theorem Qbt (hc : CallR X (.type T) r) (hg : Gl X x) (hm : X.mg x = none) (hv : bootBuiltins x = some (.type T)) (ha : PA X (e :: es) t) (hn : x ≠ "__name__" := by decide) (hdb : (x == ("__debug__" : Str)) = false := by decide)
 (he : starEach (e :: es) X.env = (false, eval e X.env) :: starEach es X.env := by rfl) (hpl : (backTo pos (starEach es X.env)).any (·.1) = false := by rfl) : PE X (.Call (.Name x p) (e :: es) [] pos) (tCB r t) := by
 intro pins s σ H Q I h
 refine wpAny_Call_Name_kw (Qdi I hg hm hv ?_ hn hdb)
 exact PyProof.Rows.callWith_type1 (thn (ha pos pins s σ H _ I h) fun us s1 ⟨vs, H1, I1, r1, q1⟩ => hc pins s1 σ H1 vs us Q I1 r1 q1) he hpl
end
end L2
namespace HT
open PySem PyProof.Rows
section
open PySem.SeqAt
open PySem.AutoSeq1 (wpAny_loadPart')
open PySem.MeetsSeq PySem.MeetsSeq2 PySem.MeetsSeq3
end
section
variable {prog : Program} {w : World} {A : Around} {E : Q0} {s : Shared}
def sIx (n d : Nat) : Option Int → Nat
 | none => d
 | some v => if v < 0 then (v + (n : Int)).toNat else min v.toNat n
theorem sIx_none (n d : Nat) : sIx n d none = d := rfl
theorem sIx_nat (n d k : Nat) : sIx n d (some (k : Int)) = min k n := by
 show (if (k : Int) < 0 then ((k : Int) + (n : Int)).toNat else min (k : Int).toNat n) = min k n
 rw [if_neg (by omega), Int.toNat_natCast]
end
end HT
namespace L2
open PySem PySem.Spec PyProof.Rows
abbrev TO := St → Hp → (Option Int → Hp → Prop) → Prop
def PO (X : Cx) (e : Option Expr) (t : TO) : Prop :=
 ∀ (pins : Q3) (s : Shared) (σ : St) (H : Hp) (Q : Option Int → Hp → Prop), Inv X pins σ H s → t σ H Q →
   wpAny (model X.prog X.w) X.A (evalPart e X.env) (fun u s' => ∃ o H', Inv X pins σ H' s' ∧ IsPart u o ∧ Q o H') X.xe s
def tNoPart : TO := fun _ H Q => Q none H
def tPart (t : TE) : TO := fun σ H Q => t σ H fun x H1 => ∃ i, x = .int i ∧ Q (some i) H1
section
variable {X : Cx} {e : Expr} {te : TE} {lo hi : Option Expr} {tl th : TO} {pos p2 : Pos}
theorem Qck : PO X none tNoPart := by
 intro pins s σ H Q I h
 rw [evalPart_none]
 exact wpAny_pure ⟨none, H, I, .none, h⟩
theorem Qb7 (h : PE X e te) : PO X (some e) (tPart te) := by
 intro pins s σ H Q I hw
 rw [evalPart_some]
 refine thn (h pins s σ H _ I hw) fun u s1 ⟨x, H1, I1, r1, q1⟩ => ?_
 obtain ⟨i, rfl, q⟩ := q1
 obtain ⟨t, rfl⟩ := r1
 exact ⟨some i, H1, I1, .int i t, q⟩
def SlR (X : Cx) (r : V → Option Int → Option Int → Hp → VK → Prop) : Prop :=
 ∀ (pins : Q3) (s : Shared) (σ : St) (H : Hp) (x : V) (v vl vu : Value) (lo hi : Option Int) (sl : Addr) (Q : VK), Inv X pins σ H s → RelV x v → s.heap.IsSliceOf sl vl vu .none → IsPart vl lo → IsPart vu hi → r x lo hi H Q →
   ∃ T id, typeLookup (.type T) "__getitem__" = pure (some (.builtin id)) ∧ s.TypeIs v T ∧ wpAny (model X.prog X.w) X.A (getItem v (.ref sl)) (EP X pins σ Q) X.xe s
def tSl (r : V → Option Int → Option Int → Hp → VK → Prop) (te : TE) (tl th : TO) : TE := fun σ H Q => te σ H fun x H1 => tl σ H1 fun l H2 => th σ H2 fun u H3 => r x l u H3 Q
theorem Qb1 {r : V → Option Int → Option Int → Hp → VK → Prop} (hr : SlR X r) (he : PE X e te) (hl : PO X lo tl) (hu : PO X hi th) : PE X (.Subscript e (.Slice lo hi none p2) pos) (tSl r te tl th) := by
 intro pins s σ H Q I h
 refine Subscript_ (thn (he pins s σ H _ I h) fun v s1 ⟨x, H1, I1, r1, q1⟩ => ?_)
 refine wpAny_Slice (thn (hl pins s1 σ H1 _ I1 q1) fun vl s2 ⟨l, H2, I2, pl, q2⟩ => thn (hu pins s2 σ H2 _ I2 q2) fun vu s3 ⟨u, H3, I3, pu, q3⟩ => ?_)
 rw [evalPart_none]
 refine wpAny_pure ?_
 have I4 : Inv X pins σ H3 { s3 with heap := s3.heap.push { cls := .type "slice", data := .fields #[vl, vu, .none] } } := I3.kept (t' := s3.toks) fun b ob q => Heap.get?_push_of_some _ q
 obtain ⟨T, id, hT, ht, hg⟩ := hr pins { s3 with heap := s3.heap.push { cls := .type "slice", data := .fields #[vl, vu, .none] } } σ H3 x v vl vu l u s3.heap.objs.size Q I4 r1 (Heap.IsSliceOf.new ..) pl pu q3
 show wpAny (model X.prog X.w) X.A (subscriptTail e (.Slice lo hi none p2) v (.ref s3.heap.objs.size)) (EP X pins σ Q) X.xe { s3 with heap := s3.heap.push { cls := .type "slice", data := .fields #[vl, vu, .none] } }
 exact tail_any (ops := [.ref s3.heap.objs.size, v]) ht hT hg (by with_unfolding_all rfl)
def cutV (xs : List V) (lo hi : Option Int) : List V := (xs.drop (HT.sIx xs.length 0 lo)).take (HT.sIx xs.length xs.length hi - HT.sIx xs.length 0 lo)
theorem Qf9 (xs : List V) (lo hi : Option Int) : (cutV xs lo hi).length ≤ xs.length := by
 unfold cutV
 rw [List.length_take, List.length_drop]
 omega
end
end L2
namespace L2
open PySem PySem.Spec PyProof.Rows
def ixN (n : Nat) (i : Int) : Option Nat := if 0 ≤ i then (if i < n then some i.toNat else none) else if -(n : Int) ≤ i then some (i + n).toNat else none
def atI {α : Type} (xs : List α) (i : Int) : Option α := (ixN xs.length i).bind fun j => xs[j]?
theorem Qi4 {n : Nat} {i : Int} {j : Nat} (h : ixN n i = some j) : seqIndex? i n = some j ∧ j < n ∧ -(n : Int) ≤ i ∧ i < n := by
 unfold ixN at h
 by_cases h0 : 0 ≤ i
 ·rw [if_pos h0] at h
  by_cases h1 : i < n
  ·rw [if_pos h1] at h
   have e : i.toNat = j := Option.some.inj h
   exact ⟨by rw [seqIndex_of h0 h1, e], by omega, by omega, h1⟩
  ·rw [if_neg h1] at h; cases h
 ·rw [if_neg h0] at h
  by_cases h1 : -(n : Int) ≤ i
  ·rw [if_pos h1] at h
   have e : (i + n).toNat = j := Option.some.inj h
   exact ⟨by rw [seqIndex_neg (by omega) h1, e], by omega, h1, by omega⟩
  ·rw [if_neg h1] at h; cases h
theorem Qgc {α : Type} {xs : List α} {i : Int} {v : α} (h : atI xs i = some v) : ∃ j, seqIndex? i xs.length = some j ∧ xs[j]? = some v ∧ j < xs.length ∧ -(xs.length : Int) ≤ i ∧ i < xs.length := by
 unfold atI at h
 cases e : ixN xs.length i with
 | none => rw [e] at h; cases h
 | some j =>
   rw [e] at h
   obtain ⟨h1, h2, h3, h4⟩ := Qi4 e
   exact ⟨j, h1, h, h2, h3, h4⟩
theorem Qce {α : Type} {xs : List α} {j : Nat} {v : α} (h : xs[j]? = some v) : atI xs (j : Int) = some v := by
 have hj : j < xs.length := (List.getElem?_eq_some_iff.mp h).1
 have e : ixN xs.length (j : Int) = some j := by
  unfold ixN
  rw [if_pos (by omega), if_pos (by omega)]; simp
 unfold atI; rw [e]; exact h
def PlainIx (b : Expr) : Prop := ∀ o i, subscripted b false o i = operate [o, i] (getItem o i)
def IxR (X : Cx) (r : R2) : Prop :=
 ∀ (value slice : Expr) (pins : Q3) (s : Shared) (σ : St) (H : Hp) (x y : V) (v u : Value) (Q : VK), Inv X pins σ H s → RelV x v → RelV y u → r x y H Q →
   subscripted slice false v u = operate [v, u] (getItem v u) → wpAny (model X.prog X.w) X.A (subscriptTail value slice v u) (EP X pins σ Q) X.xe s
def MtR (X : Cx) (id : String) (r : V → List V → Hp → VK → Prop) : Prop :=
 ∀ (pins : Q3) (s : Shared) (σ : St) (H : Hp) (x : V) (xs : List V) (v : Value) (us : List Value) (Q : VK), Inv X pins σ H s → RelV x v → Vals xs us → r x xs H Q →
   wpAny (model X.prog X.w) X.A (call (.builtin id) (v :: us)) (EP X pins σ Q) X.xe s
section
variable {X : Cx} {a b : Expr} {ta tb : TE} {pos : Pos}
theorem IxR.or {r r' : R2} (h : IxR X r) (h' : IxR X r') : IxR X (fun x y H Q => r x y H Q ∨ r' x y H Q) := by
 intro value slice pins s σ H x y v u Q I rx ry q hs
 rcases q with q | q
 ·exact h value slice pins s σ H x y v u Q I rx ry q hs
 ·exact h' value slice pins s σ H x y v u Q I rx ry q hs
theorem Qax {r : R2} (hr : IxR X r) (ha : PE X a ta) (hb : PE X b tb) (hs : PlainIx b) : PE X (.Subscript a b pos) (tOp r ta tb) := by
 intro pins s σ H Q I h
 exact Subscript_ (binT ha hb I h fun v u s2 x y H2 I2 rx ry q => hr a b pins s2 σ H2 x y v u Q I2 rx ry q (hs _ _))
def rIxL (K : Q4) : R2 := fun x y H Q => ∃ p xs i v, x = .ref p ∧ y = .int i ∧ SqL K H p xs ∧ atI xs i = some v ∧ Q v H
def rIxT (K : Q4) : R2 := fun x y H Q => ∃ p xs i v, x = .ref p ∧ y = .int i ∧ SqT K H p xs ∧ atI xs i = some v ∧ Q v H
def rIxS : R2 := fun x y H Q => ∃ z i c, x = .str z ∧ y = .int i ∧ z.length ≤ sizeLine ∧ atI z.cps.toList i = some c ∧ Q (.str ⟨#[c]⟩) H
theorem Qm3 : IxR X (rIxL X.K) := by
 intro value slice pins s σ H x y v u Q I rx ry h hs
 obtain ⟨p, xs, i, z, rfl, rfl, hq, he, q⟩ := h
 cases rx
 obtain ⟨t, rfl⟩ := ry
 obtain ⟨its, r, pl, hz⟩ := I.list hq
 obtain ⟨j, h1, h2, h3, h4, h5⟩ := Qgc he
 obtain ⟨w, ew, rw'⟩ := r.get h2
 have hl := r.length
 have hn := line63
 have fin : EP X pins σ Q w s := ⟨z, H, I, rw', q⟩
 by_cases h0 : 0 ≤ i
 ·have hj : i.toNat = j := by
   rw [seqIndex_of h0 h5] at h1
   exact Option.some.inj h1
  exact item_listR pl.isList h0 (by omega) (by rw [hj]; simpa using ew) fin hs
 ·have hj : (i + (its.toArray.size : Int)).toNat = j := by
   rw [seqIndex_neg (by omega) h4] at h1
   rw [List.size_toArray, ← hl]
   exact Option.some.inj h1
  exact subscriptTail_builtinR (x := w) pl.isList.typeIs slot_list_getitem.lookup
   (wpAny_getItem_list_neg (Q := fun r s' => r = w ∧ EP X pins σ Q r s') pl.isList (by omega) (by rw [List.size_toArray] <;> omega) (by omega) (by rw [hj]; simpa using ew) ⟨rfl, fin⟩) hs
theorem ix_tup : IxR X (rIxT X.K) := by
 intro value slice pins s σ H x y v u Q I rx ry h hs
 obtain ⟨p, xs, i, z, rfl, rfl, hq, he, q⟩ := h
 cases rx
 obtain ⟨t, rfl⟩ := ry
 obtain ⟨its, r, pl, hz⟩ := I.tuple hq
 obtain ⟨j, h1, h2, h3, h4, h5⟩ := Qgc he
 obtain ⟨w, ew, rw'⟩ := r.get h2
 have hl := r.length
 have hn := line63
 have fin : EP X pins σ Q w s := ⟨z, H, I, rw', q⟩
 exact subscriptTail_builtinR (x := w) pl.typeIs slot_tuple_getitem.lookup
  (getItem_tuple (j := j) (Q := fun r s' => r = w ∧ EP X pins σ Q r s') pl (by omega) (by omega) (by rw [List.size_toArray, ← hl]; exact h1) (by simpa using ew) ⟨rfl, fin⟩) hs
theorem ix_str : IxR X rIxS := by
 intro value slice pins s σ H x y v u Q I rx ry h hs
 obtain ⟨z, i, c, rfl, rfl, hz, he, q⟩ := h
 obtain ⟨t, rfl⟩ := rx
 obtain ⟨t', rfl⟩ := ry
 obtain ⟨j, h1, h2, h3, h4, h5⟩ := Qgc he
 have hl : z.cps.toList.length = z.length := by simp [Str.length]
 rw [hl] at h1 h4 h5
 have hn := line63
 exact tail_any (typeIs_str s z t) slot_str_getitem.lookup (getItem_str (c := c) (by
  have e1 : decide (i < -(2 ^ 63 : Int)) = false := decide_eq_false (by omega)
  have e2 : decide (i ≥ 2 ^ 63) = false := decide_eq_false (by omega)
  rw [e1, e2, Bool.or_false]) (by rw [h1]; simpa using h2) ⟨.str ⟨#[c]⟩, H, I.tok _, ⟨_, rfl⟩, q⟩) hs
def rIx (K : Q4) : R2 := fun x y H Q => rIxL K x y H Q ∨ rIxT K x y H Q ∨ rIxS x y H Q
theorem Qav : IxR X (rIx X.K) := Qm3.or (ix_tup.or ix_str)
theorem Qhj (its : List Value) (n j : Nat) (u : Value) : Obj.mapSeq (·.setIfInBounds j u) { cls := .type "list", data := .seq its.toArray n } = { cls := .type "list", data := .seq (its.set j u).toArray n } := by
 simp [Obj.mapSeq]
theorem Inv.lst {pins : Q3} {σ : St} {H : Hp} {s : Shared} {p : Addr} {xs : List V} (I : Inv X pins σ H s) (h : H p = some (.lst xs)) :
 ∃ (its : List Value) (n : Nat), Vals xs its ∧ s.heap.get? p = some { cls := .type "list", data := .seq its.toArray n } ∧ xs.length ≤ sizeLine := by
 obtain ⟨z, its, n, r, e⟩ := I.hok p _ h
 exact ⟨its, n, r, e, z⟩
theorem Inv.lstUpd {pins : Q3} {σ : St} {H : Hp} {s : Shared} {p : Addr} {xs ys : List V} {its its' : List Value} {n n' : Nat} {f : Obj → Obj} (I : Inv X pins σ H s) (h : H p = some (.lst xs))
 (ho : s.heap.get? p = some { cls := .type "list", data := .seq its.toArray n }) (hf : f { cls := .type "list", data := .seq its.toArray n } = { cls := .type "list", data := .seq its'.toArray n' }) (r : Vals ys its') (hz : ys.length ≤ sizeLine) (t : Nat) :
 Inv X pins σ (upd H p (.lst ys)) { s with heap := s.heap.update p f, toks := t } := by
 have e : (s.heap.update p f).get? p = some { cls := .type "list", data := .seq its'.toArray n' } := by
  rw [Heap.get?_update_self f ho (by rw [hf] <;> rfl), hf]
 refine I.write (x := p) (e := p) (by rw [h]; trivial) (.inl rfl) (fun b u hb q => (Heap.get?_update_other _ _ (Ne.symm hb)).trans q) ⟨_, e⟩ ?_
 exact ⟨hz, its', n', r, e⟩
def rSetL : V → V → V → Hp → (Hp → Prop) → Prop := fun o i v H Q => ∃ p xs k j, o = .ref p ∧ i = .int k ∧ H p = some (.lst xs) ∧ ixN xs.length k = some j ∧ Q (upd H p (.lst (xs.set j v)))
theorem Qkb : PSet X rSetL := by
 intro pins s σ H o i v ov iv u Q I ro ri rv h
 obtain ⟨p, xs, k, j, rfl, rfl, hp, hj, q⟩ := h
 cases ro
 obtain ⟨t, rfl⟩ := ri
 obtain ⟨its, n, r, ho, hz⟩ := I.lst hp
 obtain ⟨h1, h2, h3, h4⟩ := Qi4 hj
 have hl := r.length
 have hn := line63
 have I' : Inv X pins σ (upd H p (.lst (xs.set j v))) { s with heap := s.heap.update p (Obj.mapSeq (·.setIfInBounds j u)) } :=
  I.lstUpd hp ho (Qhj its n j u) (r.set rv j) (by rw [List.length_set]; exact hz) s.toks
 by_cases h0 : 0 ≤ k
 ·have hk : k.toNat = j := by
   rw [seqIndex_of h0 h4] at h1
   exact Option.some.inj h1
  exact PySem.W.ki_setAt ho h0 (by omega) (by rw [List.size_toArray, ← hl]; exact h4) (by rw [hk]; exact ⟨_, I', q⟩)
 ·have hk : (k + (its.toArray.size : Int)).toNat = j := by
   rw [seqIndex_neg (by omega) h3] at h1
   rw [List.size_toArray, ← hl]
   exact Option.some.inj h1
  exact PySem.W.ki_setBack ho (by omega) (by rw [List.size_toArray, ← hl]; exact h3) (by omega) (by rw [hk]; exact ⟨_, I', q⟩)
theorem Qe6 (lo hi : Option Int) (n : Nat) : (sliceBounds lo hi none n).1 = ((HT.sIx n 0 lo : Nat) : Int) ∧ (sliceBounds lo hi none n).2.1 = ((HT.sIx n n hi : Nat) : Int) ∧ (sliceBounds lo hi none n).2.2 = 1 := by
 refine ⟨?_, ?_, rfl⟩
 ·cases lo with
  | none => simp [sliceBounds, HT.sIx]
  | some i =>
    simp only [sliceBounds, HT.sIx, Option.getD_none, show (1 : Int) > 0 by decide, if_true]
    by_cases h : i < 0
    ·simp only [h, if_true] <;> omega
    ·simp only [h, if_false] <;> omega
 ·cases hi with
  | none => simp [sliceBounds, HT.sIx]
  | some i =>
    simp only [sliceBounds, HT.sIx, Option.getD_none, show (1 : Int) > 0 by decide, if_true]
    by_cases h : i < 0
    ·simp only [h, if_true] <;> omega
    ·simp only [h, if_false] <;> omega
theorem Qej (its : List Value) (lo hi : Option Int) : slicePick its.toArray lo hi none = ((its.drop (HT.sIx its.length 0 lo)).take (HT.sIx its.length its.length hi - HT.sIx its.length 0 lo)).toArray := by
 obtain ⟨h1, h2, h3⟩ := Qe6 lo hi its.toArray.size
 unfold slicePick
 rw [h1, h2, h3]
 simp only [sliceRange_one, pick_run, List.size_toArray] <;> rfl
def rSlL (K : Q4) : V → Option Int → Option Int → Hp → VK → Prop := fun x lo hi H Q => ∃ a xs, x = .ref a ∧ SqL K H a xs ∧ ∀ p, H p = none → Q (.ref p) (upd H p (.lst (cutV xs lo hi)))
theorem Qcd : SlR X (rSlL X.K) := by
 intro pins s σ H x v vl vu lo hi sl Q I rx hs pl pu h
 obtain ⟨a, xs, rfl, hx, q⟩ := h
 cases rx
 obtain ⟨its, r, ht, hz⟩ := I.list hx
 have hlen := r.length
 refine ⟨"list", _, slot_list_getitem.lookup, ht.isList.typeIs, ?_⟩
 refine wpAny_getItem_list_slice ht.isList hs pl pu .none (by simp) ?_ (by rw [List.size_toArray] <;> omega)
 rw [Qej, ← hlen]
 refine ⟨.ref s.heap.objs.size, _, I.laid (t' := s.toks) (o := .lst (cutV xs lo hi)) (fun b ob q => Heap.get?_push_of_some _ q) (Nat.le_refl _) ?_, rfl, q _ (I.hok.fresh (Nat.le_refl _))⟩
 exact ⟨Nat.le_trans (Qf9 xs lo hi) hz, _, 0, (r.drop (HT.sIx xs.length 0 lo)).take (HT.sIx xs.length xs.length hi - HT.sIx xs.length 0 lo), Heap.get?_push_size _ rfl⟩
def flatV : V → Bool
 | .non => true
 | .bl _ => true
 | .int _ => true
 | .str _ => true
 | _ => false
def eqV : V → V → Bool
 | .non, .non => true
 | .bl a, .bl b => a == b
 | .bl a, .int b => (if a then 1 else 0) == b
 | .int a, .bl b => a == (if b then 1 else 0)
 | .int a, .int b => a == b
 | .str a, .str b => a == b
 | _, _ => false
theorem eqAt_V {A : Around} {s : Shared} {y x : V} {u v : Value} (ry : RelV y u) (rx : RelV x v) (fy : flatV y = true) (fx : flatV x = true) : SeqAt.EqAt A s u v (eqV y x) := by
 cases y with
 | non =>
   cases ry
   cases x with
   | non => cases rx; exact SeqAt.EqAt.same _
   | bl b => cases rx; exact SeqAt.EqAt.none_bool b
   | int b => obtain ⟨t, rfl⟩ := rx; exact SeqAt.EqAt.none_int b t
   | str b => obtain ⟨t, rfl⟩ := rx; exact SeqAt.EqAt.none_str b t
   | _ => exact absurd (show false = true from fx) Bool.false_ne_true
 | bl a =>
   cases ry
   cases x with
   | non => cases rx; exact SeqAt.EqAt.bool_none a
   | bl b => cases rx; exact SeqAt.EqAt.bool_bool a b
   | int b => obtain ⟨t, rfl⟩ := rx; exact SeqAt.EqAt.bool_int a b t
   | str b => obtain ⟨t, rfl⟩ := rx; exact SeqAt.EqAt.bool_str a b t
   | _ => exact absurd (show false = true from fx) Bool.false_ne_true
 | int a =>
   obtain ⟨t', rfl⟩ := ry
   cases x with
   | non => cases rx; exact SeqAt.EqAt.int_none a t'
   | bl b => cases rx; exact SeqAt.EqAt.int_bool a t' b
   | int b => obtain ⟨t, rfl⟩ := rx; exact SeqAt.EqAt.int_int a t' b t
   | str b => obtain ⟨t, rfl⟩ := rx; exact SeqAt.EqAt.int_str a t' b t
   | _ => exact absurd (show false = true from fx) Bool.false_ne_true
 | str a =>
   obtain ⟨t', rfl⟩ := ry
   cases x with
   | non => cases rx; exact SeqAt.EqAt.str_none a t'
   | bl b => cases rx; exact SeqAt.EqAt.str_bool a t' b
   | int b => obtain ⟨t, rfl⟩ := rx; exact SeqAt.EqAt.str_int a t' b t
   | str b => obtain ⟨t, rfl⟩ := rx; exact SeqAt.EqAt.str_str a t' b t
   | _ => exact absurd (show false = true from fx) Bool.false_ne_true
 | _ => exact absurd (show false = true from fy) Bool.false_ne_true
def eqU (x : V) (u : Value) : Bool := match u with
 | .none => eqV .non x
 | .bool b => eqV (.bl b) x
 | .int i _ => eqV (.int i) x
 | .str z _ => eqV (.str z) x
 | _ => false
theorem Qlw {x y : V} {u : Value} (r : RelV y u) (f : flatV y = true) : eqU x u = eqV y x := by
 cases y with
 | non => cases r; rfl
 | bl b => cases r; rfl
 | int i => obtain ⟨t, rfl⟩ := r; rfl
 | str z => obtain ⟨t, rfl⟩ := r; rfl
 | _ => exact absurd (show false = true from f) Bool.false_ne_true
theorem Qd8 {x : V} : ∀ {xs : List V} {us : List Value}, Vals xs us → xs.all flatV = true → us.any (eqU x) = xs.any fun y => eqV y x
 | _, _, .nil, _ => rfl
 | y :: xs, u :: us, .cons r t, f => by
   rw [List.all_cons, Bool.and_eq_true] at f
   rw [List.any_cons, List.any_cons, Qlw r f.1, Qd8 t f.2]
theorem Qc7 {A : Around} {s : Shared} {x : V} {v : Value} (rx : RelV x v) (fx : flatV x = true) : ∀ {xs : List V} {us : List Value}, Vals xs us → xs.all flatV = true → ∀ u ∈ us, SeqAt.EqAt A s u v (eqU x u)
 | _, _, .nil, _ => fun u hu => by cases hu
 | y :: xs, u :: us, .cons r t, f => fun u' hu => by
   rw [List.all_cons, Bool.and_eq_true] at f
   rcases List.mem_cons.mp hu with rfl | hu
   ·rw [Qlw r f.1]; exact eqAt_V r rx f.1 fx
   ·exact Qc7 rx fx t f.2 u' hu
def inV (x : V) (xs : List V) : Bool := xs.any fun y => eqV y x
def rIn (K : Q4) (neg : Bool) : R2 := fun x y H Q => ∃ p xs, y = .ref p ∧ (SqL K H p xs ∨ SqT K H p xs) ∧ flatV x = true ∧ xs.all flatV = true ∧ Q (.bl (if neg then !inV x xs else inV x xs)) H
theorem Qfd : OpR X (compareOp .In) (rIn X.K false) := by
 intro pins s σ H x y v u Q I rx ry h
 obtain ⟨p, xs, rfl, hq, fx, fs, q⟩ := h
 cases ry
 rcases hq with hq | hq
 ·obtain ⟨its, r, pl, hz⟩ := I.list hq
  refine SeqAt.in_listAt (eqU x) pl.isList (fun w hw => Qc7 rx fx r fs w (by simpa using hw)) ⟨.bl _, H, I, rfl, ?_⟩
  rw [show its.toArray.any (eqU x) = its.any (eqU x) by simp, Qd8 r fs]
  exact q
 ·obtain ⟨its, r, pl, hz⟩ := I.tuple hq
  refine SeqAt.in_tupleAt (eqU x) pl (fun w hw => Qc7 rx fx r fs w (by simpa using hw)) ⟨.bl _, H, I, rfl, ?_⟩
  rw [show its.toArray.any (eqU x) = its.any (eqU x) by simp, Qd8 r fs]
  exact q
theorem Qbr : OpR X (compareOp .NotIn) (rIn X.K true) := by
 intro pins s σ H x y v u Q I rx ry h
 obtain ⟨p, xs, rfl, hq, fx, fs, q⟩ := h
 cases ry
 rcases hq with hq | hq
 ·obtain ⟨its, r, pl, hz⟩ := I.list hq
  refine SeqAt.notIn_listAt (eqU x) pl.isList (fun w hw => Qc7 rx fx r fs w (by simpa using hw)) ⟨.bl _, H, I, rfl, ?_⟩
  rw [show its.toArray.any (eqU x) = its.any (eqU x) by simp, Qd8 r fs]
  exact q
 ·obtain ⟨its, r, pl, hz⟩ := I.tuple hq
  refine SeqAt.notIn_tupleAt (eqU x) pl (fun w hw => Qc7 rx fx r fs w (by simpa using hw)) ⟨.bl _, H, I, rfl, ?_⟩
  rw [show its.toArray.any (eqU x) = its.any (eqU x) by simp, Qd8 r fs]
  exact q
theorem Qam : CallR X (.builtin "len") (fun xs H Q => ∃ p ys, xs = [.ref p] ∧ (SqL X.K H p ys ∨ SqT X.K H p ys) ∧ Q (.int ys.length) H) := by
 intro pins s σ H xs us Q I r h
 obtain ⟨p, ys, rfl, hq, q⟩ := h
 obtain ⟨u, rfl, rx⟩ := vals1 r
 cases rx
 have hn := line63
 rcases hq with hq | hq
 ·obtain ⟨its, r', pl, hz⟩ := I.list hq
  have hlen := r'.length
  exact Calls.call_len_list pl.isList (by simp only [List.size_toArray] <;> omega) ⟨.int ys.length, H, I.tok _, ⟨s.toks + 1, by rw [List.size_toArray, hlen]⟩, q⟩
 ·obtain ⟨its, r', pl, hz⟩ := I.tuple hq
  have hlen := r'.length
  exact len_tuple pl (by simp only [List.size_toArray] <;> omega) ⟨.int ys.length, H, I.tok _, ⟨s.toks + 1, by rw [List.size_toArray, hlen]⟩, q⟩
theorem Qbm : CallR X (.type "list") (fun xs H Q => ∃ p ys, xs = [.ref p] ∧ (SqL X.K H p ys ∨ SqT X.K H p ys) ∧ ∀ l, H l = none → Q (.ref l) (upd H l (.lst ys))) := by
 intro pins s σ H xs us Q I r h
 obtain ⟨p, ys, rfl, hq, q⟩ := h
 obtain ⟨u, rfl, rx⟩ := vals1 r
 cases rx
 have fin : ∀ (its : List Value), Vals ys its → ys.length ≤ sizeLine → ∀ (h' : Heap) (c' : Nat), (∀ b o', s.heap.get? b = some o' → h'.get? b = some o') →
  h'.get? s.heap.objs.size = some { cls := .type "list", dict := none, data := .seq its.toArray c', slots := #[] } → EP X pins σ Q (.ref s.heap.objs.size) { s with heap := h' } := fun its r' hz h' c' kp e =>
  ⟨.ref s.heap.objs.size, _, I.laid (t' := s.toks) kp (Nat.le_refl _) (show ObjOk X.prog X.w _ h' _ (.lst ys) from ⟨hz, its, c', r', e⟩), rfl, q _ (I.hok.fresh (Nat.le_refl _))⟩
 rcases hq with hq | hq
 ·obtain ⟨its, r', pl, hz⟩ := I.list hq
  have hlen := r'.length
  obtain ⟨o, ho, hc, n, hd⟩ := pl.isList
  exact call_list_seq p (.inl rfl) ho hc hd (fun h' c' kp e => fin its r' hz h' c' kp e) (by simp only [List.size_toArray] <;> omega)
 ·obtain ⟨its, r', pl, hz⟩ := I.tuple hq
  have hlen := r'.length
  obtain ⟨o, ho, hc, n, hd⟩ := pl
  exact call_list_seq p (.inr rfl) ho hc hd (fun h' c' kp e => fin its r' hz h' c' kp e) (by simp only [List.size_toArray] <;> omega)
def tyV (K : Q4) (T : String) (x : V) (H : Hp) : Prop := match x with
 | .str _ => T = "str"
 | .int _ => T = "int"
 | .ref p => (T = "list" ∧ ∃ xs, SqL K H p xs) ∨ (T = "tuple" ∧ ∃ o, K.lookup p = some o ∧ o.cls = .type "tuple" ∧ o.dict = none) ∨
  (T = "dict" ∧ ((∃ kvs, H p = some (.dK kvs)) ∨ ∃ kvs, H p = some (.dT kvs))) ∨ (T = "set" ∧ ∃ S n, H p = some (.set S n))
 | _ => False
theorem Qk6 {pins : Q3} {σ : St} {H : Hp} {s : Shared} {T : String} {x : V} {v : Value} (I : Inv X pins σ H s) (r : RelV x v) (ty : tyV X.K T x H) :
 s.TypeIs v T ∧ ∀ a, v = .ref a → ∃ ob, s.heap.get? a = some ob ∧ ob.dict = none := by
 cases x with
 | str z =>
   obtain ⟨t, rfl⟩ := r
   cases (show T = "str" from ty)
   exact ⟨typeIs_str s z t, fun _ e => nomatch e⟩
 | int i =>
   obtain ⟨t, rfl⟩ := r
   cases (show T = "int" from ty)
   exact ⟨typeIs_int s i t, fun _ e => nomatch e⟩
 | ref p =>
   cases r
   rcases ty with ⟨rfl, xs, hq⟩ | ⟨rfl, o, hk, hc, hd⟩ | ⟨rfl, hk⟩ | ⟨rfl, S, n, hk⟩
   ·obtain ⟨its, _, pl, _⟩ := I.list hq
    refine ⟨pl.isList.typeIs, fun a e => ?_⟩
    cases e
    obtain ⟨o, n, e, c, hd, _⟩ := pl
    exact ⟨o, e, hd⟩
   ·refine ⟨⟨o, I.kIn p o hk, hc⟩, fun a e => ?_⟩
    cases e
    exact ⟨o, I.kIn _ o hk, hd⟩
   ·have z : ∃ o, s.heap.get? p = some o ∧ o.ExactDict := by
     rcases hk with ⟨kvs, hk⟩ | ⟨kvs, hk⟩
     ·obtain ⟨_, _, _, _, o, _, _, e, ex, _⟩ := I.hok p _ hk
      exact ⟨o, e, ex⟩
     ·obtain ⟨_, _, _, _, o, _, _, e, ex, _⟩ := I.hok p _ hk
      exact ⟨o, e, ex⟩
    obtain ⟨o, e, ex⟩ := z
    refine ⟨⟨o, e, ex.1⟩, fun a e2 => ?_⟩
    cases e2
    exact ⟨o, e, ex.2.1⟩
   ·obtain ⟨o, _, _, _, e, ex, _⟩ := I.hok p _ hk
    refine ⟨⟨o, e, ex.1⟩, fun a e2 => ?_⟩
    cases e2
    exact ⟨o, e, ex.2.1⟩
 | _ => exact False.elim ty
def tBM0 (K : Q4) (T : String) (r : V → List V → Hp → VK → Prop) (to : TE) : TE := fun σ H Q => to σ H fun x H1 => tyV K T x H1 ∧ r x [] H1 Q
def tBM (K : Q4) (T : String) (r : V → List V → Hp → VK → Prop) (to : TE) (t : TA) : TE := fun σ H Q => to σ H fun x H1 => tyV K T x H1 ∧ t σ H1 fun xs H2 => r x xs H2 Q
variable {o e : Expr} {es : List Expr} {to : TE} {t : TA} {name : Str} {apos cpos : Pos} {T id : String} {r : V → List V → Hp → VK → Prop}
theorem pe_bm0 (pa : PlainAttrs T) (slot : Slot T name id) (hty : typeOf (.builtin id) = pure (.type "method_descriptor")) (hm : MtR X id r) (ho : PE X o to)
 (hbase : attributeBase o name X.env (eval o X.env) = eval o X.env := by rfl) (hline : (apos.endLine == cpos.line) = true := by rfl) : PE X (.Call (.Attribute o name apos) [] [] cpos) (tBM0 X.K T r to) := by
 intro pins s σ H Q I h
 refine wpAny_Call_method0_late hbase hline (thn (ho pins s σ H _ I h) fun v s1 ⟨x, H1, I1, r1, ty, q1⟩ => ?_)
 obtain ⟨h1, h2⟩ := Qk6 I1 r1 ty
 exact ⟨T, id, pa, slot, hty, h1, h2, Calls.callWith_builtin rfl (PySem.evalArgs_none (hm pins s1 σ H1 x [] v [] Q I1 r1 .nil q1))⟩
theorem Qc0 (pa : PlainAttrs T) (slot : Slot T name id) (hty : typeOf (.builtin id) = pure (.type "method_descriptor")) (hm : MtR X id r) (ho : PE X o to) (ha : PA X (e :: es) t)
 (hbase : attributeBase o name X.env (eval o X.env) = eval o X.env := by rfl)
 (hfew : ((backTo cpos (starEach (e :: es) X.env)).all (fun x => !x.1) && (backToKw cpos (keywordEach [] X.env)).all (fun x => x.1.isSome)
  && decide ((e :: es).length + ([] : List Keyword).length + (if ([] : List Keyword).isEmpty then 0 else 1) < 30)) = true := by rfl)
 (hline : (apos.endLine == cpos.line) = true := by rfl) (hs : starEach (e :: es) X.env = (false, eval e X.env) :: starEach es X.env := by rfl) (hplain : (backTo cpos (starEach es X.env)).any (·.1) = false := by rfl) :
 PE X (.Call (.Attribute o name apos) (e :: es) [] cpos) (tBM X.K T r to t) := by
 intro pins s σ H Q I h
 refine wpAny_Call_method_late hbase hfew hline rfl (thn (ho pins s σ H _ I h) fun v s1 ⟨x, H1, I1, r1, ty, q1⟩ => ?_)
 obtain ⟨h1, h2⟩ := Qk6 I1 r1 ty
 refine ⟨T, id, pa, slot, hty, h1, h2, ?_⟩
 have hA := ha cpos pins s1 σ H1 _ I1 q1
 rw [hs] at hA ⊢
 refine Calls.callWith_builtin (by show (false || (backTo cpos (starEach es X.env)).any (·.1)) = false; rw [hplain] <;> rfl) (Calls.evalArgs_plain ?_)
 exact thn hA fun us s2 ⟨vs, H2, I2, r2, q2⟩ => hm pins s2 σ H2 x vs v us Q I2 r1 r2 q2
end
end L2
namespace L2
open PySem PySem.Spec PyProof.Rows
def MtM (X : Cx) (id : String) (r : V → List V → Hp → VK → Prop) : Prop :=
 ∀ (pins : Q3) (s : Shared) (σ : St) (H : Hp) (x : V) (xs : List V) (v : Value) (us : List Value) (Q : VK), Inv X pins σ H s → RelV x v → Vals xs us → r x xs H Q →
   wpAny (model X.prog X.w) X.A (call (.builtin id) (v :: us)) (EP X pins σ Q) X.xe s
theorem Vals.one : ∀ {x : V} {us : List Value}, Vals [x] us → ∃ u, us = [u] ∧ RelV x u
 | _, _, .cons r .nil => ⟨_, rfl, r⟩
theorem Vals.zero : ∀ {us : List Value}, Vals [] us → us = []
 | _, .nil => rfl
section
variable {X : Cx} {pins : Q3} {σ : St} {H : Hp} {s : Shared} {l b : Addr} {xs ys zs : List V}
theorem Inv.lset {its its' : List Value} {n : Nat} {f : Array Value → Array Value} {t' : Nat} (I : Inv X pins σ H s) (hH : H l = some (.lst xs))
 (e : s.heap.get? l = some { cls := .type "list", data := .seq its.toArray n }) (hf : f its.toArray = its'.toArray) (hv : Vals ys its') (hz : ys.length ≤ sizeLine) :
 Inv X pins σ (upd H l (.lst ys)) { s with heap := s.heap.update l (Obj.mapSeq f), toks := t' } := by
 have q := PySem.IsL.update e f
 rw [hf] at q
 refine I.write (x := l) (e := l) (by rw [hH]; exact trivial) (.inl rfl) (fun b' u hb hu => (Heap.get?_update_other s.heap (Obj.mapSeq f) (Ne.symm hb)).trans hu) ⟨_, q⟩ ?_
 exact ⟨hz, its', _, hv, q⟩
theorem Inv.lnew {its : List Value} {t' : Nat} (I : Inv X pins σ H s) (hv : Vals ys its) (hz : ys.length ≤ sizeLine) :
 Inv X pins σ (upd H s.heap.objs.size (.lst ys)) { s with heap := s.heap.push { cls := .type "list", data := .seq its.toArray }, toks := t' } :=
 I.laid (fun _ _ q => Heap.get?_push_of_some _ q) (Nat.le_refl _) ⟨hz, its, 0, hv, Heap.get?_push_size _ rfl⟩
theorem Inv.fresh (I : Inv X pins σ H s) : H s.heap.objs.size = none := I.hok.fresh (Nat.le_refl _)
theorem Inv.lstM (I : Inv X pins σ H s) (hH : H l = some (.lst xs)) : xs.length ≤ sizeLine ∧ ∃ (its : List Value) (n : Nat), Vals xs its ∧ xs.length = its.length ∧ s.heap.get? l = some { cls := .type "list", data := .seq its.toArray n } := by
 obtain ⟨z, its, n, r, e⟩ := I.hok l _ hH
 exact ⟨z, its, n, r, r.length, e⟩
end
section
variable {X : Cx}
def rAppend : V → List V → Hp → VK → Prop := fun x vs H Q => ∃ l xs y, x = .ref l ∧ vs = [y] ∧ H l = some (.lst xs) ∧ xs.length < sizeLine ∧ Q .non (upd H l (.lst (xs ++ [y])))
theorem Qb5 : MtM X "list.append" rAppend := by
 intro pins s σ H x vs v us Q I rx rv h
 obtain ⟨l, xs, y, rfl, rfl, hH, hz, q⟩ := h
 cases rx
 obtain ⟨u, rfl, ru⟩ := rv.one
 obtain ⟨z, its, n, r, hl, e⟩ := I.lstM hH
 refine call_meets F.slot_list_append ⟨_, e, rfl⟩ F.entry_list_append (F.args_list_append_2 _ _) (PySem.list_append l its.toArray n u (by rw [List.size_toArray]; omega)) ⟨e, ?_⟩
 refine ⟨.non, _, I.lset (its' := its ++ [u]) hH e (by simp) (r.append (.cons ru .nil)) ?_, rfl, q⟩
 rw [List.length_append, List.length_singleton]
 omega
def rClear : V → List V → Hp → VK → Prop := fun x vs H Q => ∃ l xs, x = .ref l ∧ vs = [] ∧ H l = some (.lst xs) ∧ Q .non (upd H l (.lst []))
theorem Qkn : MtM X "list.clear" rClear := by
 intro pins s σ H x vs v us Q I rx rv h
 obtain ⟨l, xs, rfl, rfl, hH, q⟩ := h
 cases rx
 have hus := rv.zero
 subst hus
 obtain ⟨z, its, n, r, hl, e⟩ := I.lstM hH
 refine call_meets F.slot_list_clear ⟨_, e, rfl⟩ F.entry_list_clear (F.args_list_clear_1 _) (AutoSeq1.list_clear_list_0 l its.toArray n (by rw [List.size_toArray]; omega)) ⟨e, ?_⟩
 exact ⟨.non, _, I.lset (its' := []) (ys := []) hH e rfl .nil (Nat.zero_le _), rfl, q⟩
def rCat : R2 := fun x y H Q => ∃ l b xs zs, x = .ref l ∧ y = .ref b ∧ H l = some (.lst xs) ∧ H b = some (.lst zs) ∧ xs.length + zs.length ≤ sizeLine ∧ ∀ p, H p = none → Q (.ref p) (upd H p (.lst (xs ++ zs)))
theorem Qdh : OpR X (binaryOp .Add) rCat := by
 intro pins s σ H x y v u Q I rx ry h
 obtain ⟨l, b, xs, zs, rfl, rfl, hH, hB, hz, q⟩ := h
 cases rx
 cases ry
 obtain ⟨z, its, n, r, hl, e⟩ := I.lstM hH
 obtain ⟨z2, its2, n2, r2, hl2, e2⟩ := I.lstM hB
 refine PySem.P.add_list e e2 ?_ (by rw [List.size_toArray, List.size_toArray]; omega)
 have ea : its.toArray ++ its2.toArray = (its ++ its2).toArray := by simp
 rw [ea]
 exact ⟨.ref _, _, I.lnew (t' := s.toks) (r.append r2) (by rw [List.length_append]; omega), rfl, q _ I.fresh⟩
end
section
variable {prog : Program} {w : World} {A : Around} {E : Q0} {s : Shared}
end
section
variable {X : Cx}
end
end L2
namespace L2
open PySem PySem.Spec PyProof.Rows
section
variable {κ : Type} [DecidableEq κ]
def valV (kvs : List (κ × V)) (k : κ) : Option V := (kvs.find? fun kv => decide (kv.1 = k)).map (·.2)
def putK (kvs : List (κ × V)) (k : κ) (v : V) : List (κ × V) :=
 if (kvs.any fun kv => decide (kv.1 = k)) = true then kvs.map (fun kv => if kv.1 = k then (kv.1, v) else kv) else kvs ++ [(k, v)]
theorem Qge {p : κ × V} {r : List (κ × V)} {k : κ} (e : p.1 = k) : valV (p :: r) k = some p.2 := by simp [valV, List.find?_cons, e]
theorem Qgf {p : κ × V} {r : List (κ × V)} {k : κ} (e : ¬ p.1 = k) : valV (p :: r) k = valV r k := by simp [valV, List.find?_cons, e]
theorem Qf5 (kvs : List (κ × V)) (k : κ) (v : V) : (putK kvs k v).length ≤ kvs.length + 1 := by
 unfold putK
 split
 ·rw [List.length_map]; omega
 ·rw [List.length_append, List.length_cons, List.length_nil]; omega
theorem RelO.Qc8 {o : Option V} {u : Option Value} (r : RelO o u) : o.isSome = u.isSome := by
 cases o with
 | none => cases u with
   | none => rfl
   | some _ => exact (show False from r).elim
 | some _ => cases u with
   | none => exact (show False from r).elim
   | some _ => rfl
theorem KV.val {kvs : List (κ × V)} {vs : List (κ × Value)} (r : KV kvs vs) (k : κ) : RelO (valV kvs k) (valueAt vs k) := by
 unfold KV at r
 induction r with
 | nil => exact True.intro
 | @cons p q ps qs h t ih =>
   obtain ⟨h1, h2⟩ := h
   by_cases e : p.1 = k
   ·have e' : q.1 = k := h1.symm.trans e
    have b : valueAt (q :: qs) k = some q.2 := by simp [valueAt, List.find?_cons, e']
    rw [Qge e, b]; exact h2
   ·have e' : ¬ q.1 = k := fun z => e (h1.trans z)
    have b : valueAt (q :: qs) k = valueAt qs k := by simp [valueAt, List.find?_cons, e']
    rw [Qgf e, b]; exact ih
theorem KV.any {kvs : List (κ × V)} {vs : List (κ × Value)} (r : KV kvs vs) (k : κ) : (kvs.any fun kv => decide (kv.1 = k)) = vs.any fun kv => decide (kv.1 = k) := by
 unfold KV at r
 induction r with
 | nil => rfl
 | cons h t ih => rw [List.any_cons, List.any_cons, ih, h.1]
theorem KV.repl {kvs : List (κ × V)} {vs : List (κ × Value)} (r : KV kvs vs) (k : κ) {y : V} {u : Value} (ry : RelV y u) :
 KV (kvs.map fun kv => if kv.1 = k then (kv.1, y) else kv) (vs.map fun kv => if kv.1 = k then (kv.1, u) else kv) := by
 unfold KV at r ⊢
 induction r with
 | nil => exact .nil
 | @cons p q ps qs h t ih =>
   rw [List.map_cons, List.map_cons]
   refine .cons ?_ ih
   obtain ⟨h1, h2⟩ := h
   by_cases e : p.1 = k
   ·rw [if_pos e, if_pos (h1.symm.trans e)]; exact ⟨h1, ry⟩
   ·rw [if_neg e, if_neg (fun z => e (h1.trans z))]; exact ⟨h1, h2⟩
theorem KV.put {kvs : List (κ × V)} {vs : List (κ × Value)} (r : KV kvs vs) (k : κ) {y : V} {u : Value} (ry : RelV y u) : KV (putK kvs k y) (stored vs k u) := by
 unfold putK stored
 rw [r.any k]
 by_cases e : (vs.any fun kv => decide (kv.1 = k)) = true
 ·rw [if_pos e, if_pos e]; exact r.repl k ry
 ·rw [if_neg e, if_neg e]; exact Paired.snoc r ⟨rfl, ry⟩
theorem KV.length {kvs : List (κ × V)} {vs : List (κ × Value)} (r : KV kvs vs) : kvs.length = vs.length := Paired.length r
end
theorem Qkt {P : Program} {w : World} {k : Key} {u : Value} (r : RelV (kV k) u) : (mixKind P w).is k u = true := by
 cases k with
 | inl i => obtain ⟨t, e⟩ := (show ∃ t, u = Value.int i t from r); subst e; exact Qf4 P w i t
 | inr x => obtain ⟨t, e⟩ := (show ∃ t, u = Value.str x t from r); subst e; exact Qf3 P w x t
theorem Qfg {P : Program} {w : World} : ∀ {ks : List Key} {us : List Value}, Vals (ks.map kV) us → ItemsAre (mixKind P w) ks us
 | [], _, r => by rw [List.map_nil] at r; cases r; exact .nil
 | k :: ks, _, r => by
   rw [List.map_cons] at r
   cases r with
   | cons h t => exact .cons (Qkt h) (Qfg t)
abbrev KT (H : Hp) : List (List Key × V) → List (List Key × Addr × Value) → Prop := Paired fun p q => p.1 = q.1 ∧ H q.2.1 = some (.tup (p.1.map kV)) ∧ RelV p.2 q.2.2
theorem KT.val {H : Hp} {kvs : List (List Key × V)} {xs : List (List Key × Addr × Value)} (r : KT H kvs xs) (k : List Key) : RelO (valV kvs k) ((atKey xs k).map (·.2)) := by
 induction r with
 | nil => exact True.intro
 | @cons p q ps qs h t ih =>
   obtain ⟨h1, _, h2⟩ := h
   by_cases e : p.1 = k
   ·have e' : q.1 = k := h1.symm.trans e
    have b : atKey (q :: qs) k = some q.2 := by simp [atKey, List.find?_cons, e']
    rw [Qge e, b]; exact h2
   ·have e' : ¬ q.1 = k := fun z => e (h1.trans z)
    have b : atKey (q :: qs) k = atKey qs k := by simp [atKey, List.find?_cons, e']
    rw [Qgf e, b]; exact ih
theorem KT.keeps {H H' : Hp} {kvs : List (List Key × V)} {xs : List (List Key × Addr × Value)} (r : KT H kvs xs) (ht : ∀ b ys, H b = some (.tup ys) → H' b = some (.tup ys)) : KT H' kvs xs :=
 Paired.mapP r fun _ _ z => ⟨z.1, ht _ _ z.2.1, z.2.2⟩
section
variable {P : Program} {w : World} {H : Hp} {h : Heap} {a : Addr}
theorem rd_of {u : HO} (ok : HOk P w H h) (e : Rd H a u) : ObjOk P w H h a u := e.ok ok
theorem Qni {kvs : List (Key × V)} (ok : HOk P w H h) (e : Rd H a (.dK kvs)) : kvs.length ≤ sizeLine ∧ (a == sysModules) = false ∧ ∃ vs, KV kvs vs ∧ h.DictOf (mixKind P w) a vs :=
 show ObjOk P w H h a (.dK kvs) from rd_of ok e
theorem dk_of {kvs : List (Key × V)} (ok : HOk P w H h) (e : H a = some (.dK kvs)) : kvs.length ≤ sizeLine ∧ (a == sysModules) = false ∧ ∃ vs, KV kvs vs ∧ h.DictOf (mixKind P w) a vs := Qni ok (.inl e)
theorem Qff {ks : List Key} (ok : HOk P w H h) (e : H a = some (.tup (ks.map kV))) : (tupleKind (mixKind P w)).is h ks a := by
 obtain ⟨_, its, r, o, h1, h2, n, h3⟩ := (show ObjOk P w H h a (.tup (ks.map kV)) from ok a _ e)
 exact ⟨o, its.toArray, n, h1, h2, h3, by simpa using Qfg r⟩
theorem dt_rd {kvs : List (List Key × V)} (ok : HOk P w H h) (e : Rd H a (.dT kvs)) : kvs.length ≤ sizeLine ∧ (a == sysModules) = false ∧
 ∃ xs, KT H kvs xs ∧ h.DictOfH (tupleKind (mixKind P w)) a xs := by
 obtain ⟨z, y, xs, r, o, es, ep, h1, h2, h3, h4, h5⟩ := (show ObjOk P w H h a (.dT kvs) from rd_of ok e)
 refine ⟨z, y, xs, r, o, es, ep, h1, h2, h3, h4, fun x hx => ?_, h5⟩
 have all : ∀ {l : List (List Key × V)} {m : List (List Key × Addr × Value)}, KT H l m → ∀ x ∈ m, (tupleKind (mixKind P w)).is h x.1 x.2.1 := by
  intro l m q
  induction q with
  | nil => intro x hx; exact nomatch hx
  | @cons p q ps qs hq t ih =>
    intro x hx
    rcases List.mem_cons.mp hx with e | hx
    ·subst e
     exact Qff ok (by rw [← hq.1]; exact hq.2.1)
    ·exact ih x hx
 exact all r x hx
end
def DGet (H : Hp) (a : Addr) (y : V) (r : Option V) : Prop :=
 (∃ kvs k, Rd H a (.dK kvs) ∧ y = kV k ∧ r = valV kvs k) ∨ ∃ kvs k b, Rd H a (.dT kvs) ∧ y = .ref b ∧ H b = some (.tup (k.map kV)) ∧ r = valV kvs k
def DPut (H : Hp) (a : Addr) (y v : V) (H' : Hp) : Prop :=
 (∃ kvs k, H a = some (.dK kvs) ∧ y = kV k ∧ kvs.length < sizeLine ∧ H' = upd H a (.dK (putK kvs k v))) ∨
 ∃ kvs k b, H a = some (.dT kvs) ∧ y = .ref b ∧ H b = some (.tup (k.map kV)) ∧ kvs.length < sizeLine ∧ H' = upd H a (.dT (putK kvs k v))
theorem DGet.k {H : Hp} {a : Addr} {kvs : List (Key × V)} {k : Key} (e : H a = some (.dK kvs)) : DGet H a (kV k) (valV kvs k) := .inl ⟨kvs, k, .inl e, rfl, rfl⟩
theorem DGet.t {H : Hp} {a b : Addr} {kvs : List (List Key × V)} {k : List Key} (e : H a = some (.dT kvs)) (eb : H b = some (.tup (k.map kV))) : DGet H a (.ref b) (valV kvs k) := .inr ⟨kvs, k, b, .inl e, rfl, eb, rfl⟩
theorem DPut.k {H : Hp} {a : Addr} {kvs : List (Key × V)} {k : Key} {v : V} (e : H a = some (.dK kvs)) (hl : kvs.length < sizeLine) : DPut H a (kV k) v (upd H a (.dK (putK kvs k v))) := .inl ⟨kvs, k, e, rfl, hl, rfl⟩
theorem DPut.t {H : Hp} {a b : Addr} {kvs : List (List Key × V)} {k : List Key} {v : V} (e : H a = some (.dT kvs)) (eb : H b = some (.tup (k.map kV))) (hl : kvs.length < sizeLine) :
 DPut H a (.ref b) v (upd H a (.dT (putK kvs k v))) := .inr ⟨kvs, k, b, e, rfl, eb, hl, rfl⟩
section
variable {X : Cx} {pins : Q3} {σ : St} {H : Hp} {s : Shared} {a : Addr} {y v : V} {u r : Value} {o : Option V} {A : Around} {E : Q0}
theorem Inv.big (I : Inv X pins σ H s) : sysModules < s.heap.objs.size := by
 have h : mainGlobals < s.heap.objs.size := (I.mod.glob.keeps I.bk).lt
 exact Nat.lt_trans (by decide) h
theorem d_in {Q : Q0} (hu : A.units + 1 < cLine) (I : Inv X pins σ H s) (g : DGet H a y o) (ry : RelV y u) (h : ∀ s', Inv X pins σ H s' → Q (.bool o.isSome) s') :
 wpAny (model X.prog X.w) A (compareOp .In u (.ref a)) Q E s := by
 rcases g with ⟨kvs, k, e, ey, l⟩ | ⟨kvs, k, b, e, ey, eb, l⟩
 ·subst ey
  obtain ⟨z, hd, vs, rel, dd⟩ := Qni I.hok e
  refine wpAny_in_of (Qkt ry) hd dd.mapOf ?_
  rw [← (rel.val k).Qc8, ← l]
  exact h _ (I.tok _)
 ·subst ey
  cases (show u = Value.ref b from ry)
  obtain ⟨z, hd, xs, rel, dd⟩ := dt_rd I.hok e
  refine wpAny_in_heap (tupleKind_room_in1 hu) (Qff I.hok eb) hd dd ?_
  have q := (rel.val k).Qc8
  rw [Option.isSome_map] at q
  rw [← q, ← l]
  exact h _ (I.tok _)
theorem Qnl {Q : Q0} (hu : A.units + 1 < cLine) (I : Inv X pins σ H s) (g : DGet H a y o) (ry : RelV y u) (h : ∀ s', Inv X pins σ H s' → Q (.bool (!o.isSome)) s') :
 wpAny (model X.prog X.w) A (compareOp .NotIn u (.ref a)) Q E s := by
 rcases g with ⟨kvs, k, e, ey, l⟩ | ⟨kvs, k, b, e, ey, eb, l⟩
 ·subst ey
  obtain ⟨z, hd, vs, rel, dd⟩ := Qni I.hok e
  refine wpAny_notIn_of (Qkt ry) hd dd.mapOf ?_
  rw [← (rel.val k).Qc8, ← l]
  exact h _ (I.tok _)
 ·subst ey
  cases (show u = Value.ref b from ry)
  obtain ⟨z, hd, xs, rel, dd⟩ := dt_rd I.hok e
  refine wpAny_notIn_heap (tupleKind_room_in1 hu) (Qff I.hok eb) hd dd ?_
  have q := (rel.val k).Qc8
  rw [Option.isSome_map] at q
  rw [← q, ← l]
  exact h _ (I.tok _)
theorem Qnk {h' : Heap} {t' : Nat} {ob : HO} (I : Inv X pins σ H s) (mu : Mut (H a)) (hs : Heap.SameBut a s.heap h') (he : ∃ q, h'.get? a = some q) (new : ObjOk X.prog X.w (upd H a ob) h' a ob) :
 Inv X pins σ (upd H a ob) { s with heap := h', toks := t' } :=
 I.write (x := a) (e := a) mu (.inl rfl) (fun b q hb z => (hs.2 b hb).trans z) he new
theorem Ql2 {P : Program} {w : World} {H' : Hp} {h' : Heap} {kvs : List (Key × V)} {vs : List (Key × Value)} (z : kvs.length ≤ sizeLine) (hd : (a == sysModules) = false) (rel : KV kvs vs) (dd : h'.DictOf (mixKind P w) a vs) :
 ObjOk P w H' h' a (.dK kvs) := ⟨z, hd, vs, rel, dd⟩
end
section
variable {X : Cx} {pins : Q3} {σ : St} {H : Hp} {s : Shared} {a : Addr} {kvs : List (Key × V)} {k : Key} {u : Value} {A : Around} {E : Q0}
end
def tDIn (ty td : TE) : TE := fun σ H Q => ty σ H fun y H1 => td σ H1 fun x H2 => ∃ a o, x = .ref a ∧ DGet H2 a y o ∧ Q (.bl o.isSome) H2
def tDNotIn (ty td : TE) : TE := fun σ H Q => ty σ H fun y H1 => td σ H1 fun x H2 => ∃ a o, x = .ref a ∧ DGet H2 a y o ∧ Q (.bl (!o.isSome)) H2
section
variable {X : Cx} {o i e value : Expr} {pos pos' tpos : Pos} {td ty tv : TE}
theorem pc_din (hu : X.A.units + 1 < cLine) (hi : PE X i ty) (ho : PE X o td) : PC X .In i o (tDIn ty td) := by
 intro pins s σ H Q I h
 refine thn (hi pins s σ H _ I h) fun iv s1 ⟨y, H1, I1, ry, q1⟩ => thn (ho pins s1 σ H1 _ I1 q1) fun u s2 ⟨x, H2, I2, rx, a, ov, ex, g, q2⟩ => ?_
 subst ex
 obtain rfl : u = Value.ref a := rx
 exact d_in hu I2 g ry fun s3 I3 => ⟨.bl ov.isSome, H2, I3, rfl, q2⟩
theorem Qfc (hu : X.A.units + 1 < cLine) (hi : PE X i ty) (ho : PE X o td) : PC X .NotIn i o (tDNotIn ty td) := by
 intro pins s σ H Q I h
 refine thn (hi pins s σ H _ I h) fun iv s1 ⟨y, H1, I1, ry, q1⟩ => thn (ho pins s1 σ H1 _ I1 q1) fun u s2 ⟨x, H2, I2, rx, a, ov, ex, g, q2⟩ => ?_
 subst ex
 obtain rfl : u = Value.ref a := rx
 exact Qnl hu I2 g ry fun s3 I3 => ⟨.bl (!ov.isSome), H2, I3, rfl, q2⟩
end
theorem Qk1 {P : Program} {w : World} {H : Hp} (h : Heap) (hb : sysModules < h.objs.size) : ObjOk P w H (h.push { cls := .type "dict", data := .dict #[] }) h.objs.size (.dK []) :=
 ⟨Nat.zero_le _, beq_eq_false_iff_ne.mpr (Ne.symm (Nat.ne_of_lt hb)), [], .nil, Heap.DictOf.new h⟩
def tDNewK : TE := fun _ H Q => ∀ p, H p = none → Q (.ref p) (upd H p (.dK []))
section
variable {X : Cx} {pos : Pos}
theorem Qkh : PE X (.Dict [] [] pos) tDNewK := fun pins s σ H Q I h =>
 wpAny_Dict_empty ⟨.ref s.heap.objs.size, _, I.laid (a := s.heap.objs.size) (o := .dK []) (t' := s.toks) (fun _ _ q => Heap.get?_push_of_some _ q) (Nat.le_refl _) (Qk1 s.heap I.big), rfl, h _ (I.hok.fresh (Nat.le_refl _))⟩
end
section
variable {X : Cx} {pins : Q3} {σ : St} {H : Hp} {s : Shared} {a : Addr} {y d : V} {u r : Value} {o : Option V} {A : Around} {E : Q0}
end
section
variable {X : Cx} {o e f : Expr} {apos cpos : Pos} {td ty tx : TE}
end
section
variable {X : Cx} {pins : Q3} {σ : St} {H : Hp} {s : Shared} {a : Addr} {kvs : List (Key × V)} {A : Around} {E : Q0}
end
section
variable {X : Cx} {pins : Q3} {σ : St} {H : Hp} {s : Shared} {a : Addr} {y : V} {u : Value} {A : Around} {E : Q0}
end
end L2
namespace Att
open PySem PySem.W PySem.Calls PyProof.Rows
theorem Qd2 {P : Params} {h : Heap} : ∀ (ns : List Int) (vs : List Value), WellAll P h vs (ns.map WData.int) → IntsAre vs ns := by
 intro ns
 induction ns with
 | nil =>
   intro vs w
   rw [List.map_nil] at w
   cases w
   exact .nil
 | cons n ns ih =>
   intro vs w
   rw [List.map_cons] at w
   cases w with
   | cons a b =>
     cases a
     exact .cons _ _ (ih _ b)
theorem Qh8 {l : OpenLaw} {n : Nat} (hn : l.most = some n) {P : Params} {h : Heap} {args : List WData} {vals : List Value}
 (hpre : l.row.toRowW.claim.pre args = true) (hwl : WellAll P h vals args) :
 ∃ a vs ns, vals = [Value.ref a] ∧ args = [WData.list (ns.map WData.int)] ∧ h.get? a = some { cls := .type "list", data := .seq vs.toArray } ∧ IntsAre vs ns ∧ ns.length ≤ n := by
 have hsh : WShape.hasAll [] args [.list .int] = true := (pre_splitW hpre).1
 have hc : l.pre.holds [] { args := args } = true := (pre_splitW hpre).2
 obtain ⟨d, r, rfl, h1, h2⟩ := hasAllW_cons hsh
 obtain rfl := hasAllW_nil h2
 obtain ⟨xs, rfl, h3⟩ := hasW_list h1
 obtain ⟨ns, rfl⟩ := items_int h3
 have hlen : ns.length ≤ n := by
  unfold OpenLaw.pre at hc
  have h4 : (WTm.not (.lt (.lit (.int (n : Int))) (.len (.arg 0)))).holds [] { args := [.list (ns.map .int)] } = true := by
   have h4 := (holds_andW hc).1
   rw [hn] at h4
   exact h4
  have h5 := condW_of h4 (w_not (w_lt w_lit (w_len_list (w_arg rfl))))
  rw [List.length_map] at h5
  refine Nat.le_of_not_lt fun q => ?_
  have q' : (n : Int) < ((ns.length : Nat) : Int) := by omega
  first
   | (rw [decide_eq_true q'] at h5; exact absurd h5 (by decide))
   | (simp at h5; omega)
 cases hwl with
 | cons w1 w2 =>
   cases w2
   cases w1 with
   | list ho hall => exact ⟨_, _, ns, rfl, rfl, ho, Qd2 ns _ hall, hlen⟩
theorem Qie (l : OpenLaw) (args : List WData) : l.row.toRowW.claim.post args (.bool true) args = true :=
 postW_of (r := l.row.toRowW) (X := (true == true))
  (show WShape.has [] (.bool true) .bool = true by first | rfl | decide | simp [WShape.has, WShape.arms, WShape.armsAll])
  (show (WTm.eq .res (.lit (.bool true))).value [] { args := args, res := some (.bool true), after := args } = some (.bool (true == true)) from w_eq_bool (w_res rfl) w_lit) rfl
section
variable {prog : Program} {w : World} {A : Around} {E : Q0} {s : Shared} {K : Frag}
end
end Att
namespace L2
open PySem PySem.Spec PyProof.Rows
theorem Qe3 : ∀ {vs : List Value} {ns : List Int}, IntsAre vs ns → Vals (ns.map V.int) vs
 | _, _, .nil => .nil
 | _, _, .cons n t h => .cons ⟨t, rfl⟩ (Qe3 h)
def Only (H : Hp) : Prop := ∀ b, H b = none ∨ ∃ o xs, H b = some (.frz o (.lst xs))
theorem Qkr {P : Program} {w : World} {K : Q4} {mg mb : Str → Option Value} {CX : CXT} {k : Nat} {fa a : Addr} {fd : FuncData} {x : Str} {sp : Sp} {s₁ : Shared} {vs : List Value} {ns : List Int}
 (KX : K.In s₁.heap) (hns : s₁.heap.Ns mainGlobals mg) (hb : s₁.heap.Ns builtinsNs mb) (hbb : ∀ x : Str, x ≠ "__name__" → mb x = bootBuiltins x) (hlim : s₁.heap.NoLimit) (hg : s₁.gens = #[])
 (ha : s₁.heap.get? a = some { cls := .type "list", data := .seq vs.toArray }) (hi : IntsAre vs ns) (hl : ns.length ≤ sizeLine) (hr : Room true k callerA)
 (F : ∀ base : Heap, K.In base → base.Ns mainGlobals mg → FnOk P w K mg base CX true k fa fd [x] sp) (hbind : ∀ (s : Shared) (u : Value), BindsTo s fd ⟨[u], []⟩ [(x, u)])
 (hsp : ∀ H : Hp, Only H → SqL K H a (ns.map V.int) → sp [.ref a] H (fun v _ => v = .bl true) fun _ _ _ => False)
 (hCX : ∀ H e s', CX [] H s₁ (fun _ _ _ => False) e s' → False) :
 codeAny (model P w) callerA (.call (.ref fa) ⟨[.ref a], []⟩) (fun r s' => r = .ok (.ret (.bool true)) ∧ OldK s₁.heap s'.heap ∧ s'.os = s₁.os ∧ AllBare s'.gens) s₁ := by
 have rv := Qe3 hi
 have lenV := hi.length
 have core : ∀ H : Hp, Only H → SqL K H a (ns.map V.int) → HOk P w H s₁.heap → (∀ b, H b ≠ none → b = a) → (H a ≠ none → K.lookup a = none) →
  codeAny (model P w) callerA (.call (.ref fa) ⟨[.ref a], []⟩) (fun r s' => r = .ok (.ret (.bool true)) ∧ OldK s₁.heap s'.heap ∧ s'.os = s₁.os ∧ AllBare s'.gens) s₁ := by
  intro H hO hS hok hA hK
  have base_of : ∀ {b : Addr} {o : Obj}, s₁.heap.get? b = some o → H b = none → (hidT s₁.heap H).get? b = some o := fun e n => Qkw e n
  have noA : ∀ {b : Addr} {o : Obj} {es : Array DictEntry} {ep : Nat}, s₁.heap.get? b = some o → o.data = .dict es ep → H b = none := fun {b o es ep} e d => by
   cases q : H b with
   | none => rfl
   | some u =>
     have e' : b = a := hA b (by rw [q]; simp)
     subst e'
     rw [ha] at e; cases e
     have d' : Data.seq vs.toArray _ = Data.dict es ep := d
     cases d'
  have nsK : ∀ {b : Addr} {m : Str → Option Value}, s₁.heap.Ns b m → (hidT s₁.heap H).Ns b m := fun {b m} ⟨o, es, ep, e, d, r⟩ => ⟨o, es, ep, base_of e (noA e d), d, r⟩
  have hKb : K.In (hidT s₁.heap H) := fun b o e => base_of (KX b o e) (by
   cases q : H b with
   | none => rfl
   | some u =>
     have e' : b = a := hA b (by rw [q]; simp)
     subst e'
     rw [hK (by rw [q]; simp)] at e; cases e)
  have hM : Mod K mg (hidT s₁.heap H) := ⟨hKb, nsK hns, ⟨mb, nsK hb, hbb⟩, let ⟨mc, h1, h2⟩ := hlim; ⟨mc, nsK h1, h2⟩⟩
  have e0 : Env0 P w K mg (hidT s₁.heap H) callerA [] s₁ H := ⟨rfl, hM, fun b o e => Qms e, Nat.le_of_eq (Qjb _ _), trivial, fun b hb => absurd (show b ∈ ([] : List Addr) from hb) (by simp), hok, .of_eq hg⟩
  refine codeAny_mono ((F _ hKb (nsK hns)).run callerA [] s₁ H ⟨[.ref a], []⟩ [.ref a] [.ref a] _ _ hr e0 (hbind s₁ (.ref a)) (.cons rfl .nil) (hsp H hO hS)) fun r s' h => ?_
  cases r with
  | error e => exact (hCX H e s' h).elim
  | ok fl =>
    cases fl with
    | next => exact False.elim h
    | brk => exact False.elim h
    | cont => exact False.elim h
    | ret u =>
      obtain ⟨v, H', os, bare, un, hok', r', q⟩ := h
      have q' : v = .bl true := q
      subst q'
      obtain rfl : u = Value.bool true := r'
      refine ⟨rfl, OldK.of_keep fun b o e => ?_, os, bare⟩
      cases q : H b with
      | none => exact un.keep b o e q (by intro z; exact absurd (show b ∈ ([] : List Addr) from z) (by simp)) (by simp)
      | some u =>
        rcases hO b with z | ⟨ob, xs, z⟩
        ·rw [q] at z; cases z
        ·have z2 := un.frzs b ob _ z
         obtain ⟨e1, _⟩ := hok b _ z
         obtain ⟨e2, _⟩ := hok' b _ z2
         rw [e] at e1; cases e1
         exact e2
 cases hk : K.lookup a with
 | some o =>
   have e := KX a o hk
   rw [ha] at e
   cases e
   refine core (fun _ => none) (fun _ => .inl rfl) (.inr ⟨_, vs.toArray, _, hk, rfl, rfl, rfl, by rw [List.size_toArray, lenV]; exact hl, by simpa using rv⟩) (fun b u z => by have z' : (none : Option HO) = some u := z; cases z') (fun b z => absurd rfl z) fun z => absurd rfl z
 | none =>
   refine core (fun b => if b = a then some (.frz { cls := .type "list", data := .seq vs.toArray } (.lst (ns.map V.int))) else none) (fun b => ?_) (.inl (.inr ⟨{ cls := .type "list", data := .seq vs.toArray }, if_pos rfl⟩)) (fun b u z => ?_) (fun b z => ?_) fun _ => hk
   ·by_cases hb : b = a
    ·exact .inr ⟨_, _, if_pos hb⟩
    ·exact .inl (if_neg hb)
   ·by_cases hb : b = a
    ·have z' := (if_pos hb).symm.trans z
     cases z'
     subst hb
     exact ⟨ha, by rw [List.length_map]; exact hl, vs, _, rv, ha⟩
    ·have z' := (if_neg hb).symm.trans z
     cases z'
   ·by_cases hb : b = a
    ·exact hb
    ·exact absurd (if_neg hb) z
end L2
namespace L2
open PySem PySem.Spec PyProof.Rows
end L2
namespace L2
open PySem PySem.Spec PyProof.Rows
def inClass (s : Stmt) (j : Nat) : Stmt := match s with
 | .ClassDef _ _ _ body _ _ _ _ _ _ _ => body.getD j (.Pass ⟨0, 0, 0, 0⟩)
 | _ => .Pass ⟨0, 0, 0, 0⟩
def defArgs (s : Stmt) : Arguments := match s with
 | .FunctionDef _ a _ _ _ _ _ _ _ _ => a
 | _ => { posonlyargs := [], args := [], vararg := none, kwonlyargs := [], kw_defaults := [], kwarg := none, defaults := [] }
def defBody (s : Stmt) : List Stmt := match s with
 | .FunctionDef _ _ b _ _ _ _ _ _ _ => b
 | _ => []
def defScope (s : Stmt) : Scope := match s with
 | .FunctionDef _ _ _ _ _ _ sc _ _ _ => sc
 | _ => { kind := .function, names := [], isGenerator := false, isCoroutine := false }
abbrev CX0 : CXT := fun _ _ _ _ _ _ => False
abbrev E0 : XK := fun _ _ _ => False
theorem pass0 {X : Cx} : Passes CX0 X E0 := fun _ _ _ _ _ _ _ h => h.elim
structure Fun (K : Q4) (x qual : Str) (st : Stmt) (f : Addr) (fd : FuncData) : Prop where
 ex : ∃ (oc : Value) (od : Option Addr) (kV doc pm : Value) (an : Option Addr) (cdv ct : Value) (osl : Array Q5),
  fd = fnOf x qual (defArgs st) (defBody st) (defScope st) .none kV doc pm an cdv ct ∧ K.lookup f = some ⟨oc, od, .func fd, osl⟩ ∧ codeIn K cdv qual = true
 kp : keepIn K (.ref f) = true
section
variable {P : Program} {w : World} {K : Q4} {mg : Str → Option Value} {base : Heap}
end
theorem Qm7 {cm : Bool} {A : Around} {k : Nat} (hr : Room cm k A) : A.units + 1 < cLine := Nat.lt_of_le_of_lt (Nat.add_le_add_left (by decide : 1 ≤ 64) _) hr.units
section
variable {X : Cx}
theorem pv (i : Nat) {x : Str} {pos : Pos} (hN : X.N[i]? = some x := by rfl) (hv : Vis X.env.scope x := by first | exact Or.inl rfl | exact Or.inr (Or.inl rfl) | exact Or.inr (Or.inr rfl)) (hd : (x == ("__debug__" : Str)) = false := by decide)
 (hcd : (x == ("__classdict__" : Str)) = false := by decide) : PE X (.Name x pos) (tVar i) := pe_var hN hv hd hcd
end
theorem iteF {A B : Prop} (h : B) : if false = true then A else B := by
 rw [if_neg Bool.false_ne_true]
 exact h
theorem iteT {A B : Prop} (h : A) : if true = true then A else B := by
 rw [if_pos rfl]
 exact h
def Same (H H' : Hp) : Prop := ∀ b o, H b = some o → H' b = some o
theorem Same.trans {H H1 H2 : Hp} (a : Same H H1) (b : Same H1 H2) : Same H H2 := fun c o h => b c o (a c o h)
theorem Same.free {H H' : Hp} (e : Same H H') {l : Addr} (h : H' l = Option.none) : H l = Option.none := by
 cases q : H l with
 | none => rfl
 | some o =>
   rw [e l o q] at h
   cases h
theorem Same.seq {K : Q4} {H H' : Hp} {a : Addr} {xs : List V} (e : Same H H') (h : SqL K H a xs) : SqL K H' a xs := by
 rcases h with (h | ⟨o, h⟩) | h
 ·exact .inl (.inl (e _ _ h))
 ·exact .inl (.inr ⟨o, e _ _ h⟩)
 ·exact .inr h
section
variable {κ : Type} [DecidableEq κ]
end
end L2
namespace L3
open PySem
def Rec (h : Heap) (x : Addr) (C : Value) (dx : Option Addr) (tb : Value) : Prop :=
 ∃ oe vs, h.get? x = some oe ∧ oe.cls = C ∧ oe.dict = dx ∧ oe.data = .fields vs ∧ vs[1]? = some tb ∧ vs[2]? = some .none
def Tra (h : Heap) (T : Addr) (fl : Value) : Prop := ∃ oT ts, h.get? T = some oT ∧ oT.data = .fields ts ∧ ts[3]? = some fl
theorem Qea (o : Obj) (f) : (o.mapFields f).dict = o.dict := by
 obtain ⟨c, d, dt, sl⟩ := o
 cases dt <;> rfl
structure Aft (S ch : List Addr) (h h' : Heap) : Prop where
 keep : ∀ b o, b ∉ S → b ∉ ch → h.get? b = some o → h'.get? b = some o
 slot : ∀ b o, b ∉ ch → h.get? b = some o → ∃ sl, h'.get? b = some { o with slots := sl }
 size : h.objs.size ≤ h'.objs.size
theorem Aft.refl (S ch : List Addr) (h : Heap) : Aft S ch h h := ⟨fun _ _ _ _ e => e, fun _ o _ e => ⟨o.slots, e⟩, Nat.le_refl _⟩
theorem Aft.trans {S ch : List Addr} {h1 h2 h3 : Heap} (a : Aft S ch h1 h2) (b : Aft S ch h2 h3) : Aft S ch h1 h3 where
 keep := fun c o hs hc e => b.keep c o hs hc (a.keep c o hs hc e)
 slot := fun c o hc e => by
  obtain ⟨s1, e1⟩ := a.slot c o hc e
  obtain ⟨s2, e2⟩ := b.slot c _ hc e1
  exact ⟨s2, e2⟩
 size := Nat.le_trans a.size b.size
theorem Aft.mono {S S' ch ch' : List Addr} {h h' : Heap} (a : Aft S ch h h') (hs : ∀ b, b ∈ S → b ∈ S') (hc : ∀ b, b ∈ ch → b ∈ ch') : Aft S' ch' h h' :=
 ⟨fun b o z1 z2 e => a.keep b o (fun q => z1 (hs b q)) (fun q => z2 (hc b q)) e, fun b o z e => a.slot b o (fun q => z (hc b q)) e, a.size⟩
section
variable {M : Model} {A : Around} {E : Q0} {s : Shared}
theorem Qfy {T : Addr} {oT : Obj} {ts : Array Value} {i : Nat} {v : Value} {Q : Unit → Shared → Prop} (hT : s.heap.get? T = some oT) (hd : oT.data = .fields ts) (hi : i < ts.size)
 (h : ∀ h', Aft [] [T] s.heap h' → h'.get? T = some (oT.mapFields (·.setIfInBounds i v)) → Q () { s with heap := h' }) : wpAny M A (setField (.ref T) i v) Q E s := by
 refine wpAny_setField hT hd hi (h _ ⟨fun b o _ hb e => ?_, fun b o hb e => ⟨o.slots, ?_⟩, ?_⟩ ?_)
 ·rw [Heap.get?_update_other _ _ (fun z => hb (by simp [z]))]; exact e
 ·rw [Heap.get?_update_other _ _ (fun z => hb (by simp [z]))]; exact e
 ·exact Nat.le_of_eq (Heap.size_after_update ..).symm
 ·exact Heap.get?_update_self _ hT (Obj.isFreed_of_fields (Obj.data_mapFields hd _))
theorem Qip {base : Heap} {env : Env} {outer : List Env} {L x : Addr} {oe : Obj} {vs : Array Value} {head : Value} {hadNext : Bool} {Q : Unit → Shared → Prop}
 (hfr : A.frames = some (env :: outer)) (hl : s.heap.FunFrames base (env :: outer)) (hf : env.frame = some L) (he : s.heap.get? x = some oe) (hd : oe.data = .fields vs) (hsz : 1 < vs.size) (hcx : vs[2]? = some .none)
 (h : ∀ h' T, Aft ((env :: outer).filterMap (·.frame)) [x] s.heap h' → s.heap.objs.size ≤ T → Rec h' x oe.cls oe.dict (.ref T) → Tra h' T (rawInt L) → Q () { s with heap := h' }) :
 wpAny M A (do let a ← frameOf env; let pl ← entryPlaceOf L hadNext; let b ← EntryCells.newEntry head a .none (rawInt L) .none pl; setField (.ref x) 1 b) Q E s := by
 have hne : x ∉ (env :: outer).filterMap (·.frame) := fun hm => by
  obtain ⟨_, o, ho, hnf⟩ := hl.mem hm
  rw [he] at ho
  cases ho
  exact hnf vs hd
 refine wpAny_bind (wpAny_frameOf_fun hfr hl hf fun h1 hs1 => ?_)
 refine wpAny_bind (wpAny_entryPlaceOf fun pl hpl => ?_)
 unfold EntryCells.newEntry newFields
 refine wpAny_bind (wpAny_newObj_type ?_ (hpl.sizeOk5 _ _ _ _ _))
 have he1 : h1.get? x = some oe := (hs1.2.1 x hne).trans he
 refine Qfy (Heap.get?_push_of_some _ he1) hd hsz fun h' a hx => ?_
 have hTx : h1.objs.size ≠ x := Nat.ne_of_gt (Heap.lt_size he1)
 refine h h' h1.objs.size ⟨fun b o hb hc e => ?_, fun b o hc e => ?_, ?_⟩ (Nat.le_of_eq hs1.1.symm) ⟨_, _, hx, Obj.cls_mapFields _ _, Qea _ _, Obj.data_mapFields hd _, by simp [hsz], by rw [Array.getElem?_setIfInBounds_ne (by decide)]; exact hcx⟩ ?_
 ·exact a.keep b o (by simp) hc (Heap.get?_push_of_some _ ((hs1.2.1 b hb).trans e))
 ·obtain ⟨sl, e1⟩ := hs1.2.2 b o e
  exact ⟨sl, a.keep b _ (by simp) hc (Heap.get?_push_of_some _ e1)⟩
 ·refine Nat.le_trans ?_ a.size
  show s.heap.objs.size ≤ (h1.push _).objs.size
  rw [Heap.size_push, hs1.1]
  exact Nat.le_succ _
 ·refine ⟨_, _, a.keep _ _ (by simp) (by simp [hTx]) (Heap.get?_push_size h1 rfl), rfl, ?_⟩
  first | (simp; done) | (rcases hpl with rfl | ⟨_, _, _, _, _, _, _, rfl⟩ <;> simp)
theorem Qep {base : Heap} {env : Env} {outer : List Env} {L x : Addr} {C : Value} {dx : Option Addr} {Q : Unit → Shared → Prop}
 (hfr : A.frames = some (env :: outer)) (hl : s.heap.FunFrames base (env :: outer)) (hf : env.frame = some L) (r : Rec s.heap x C dx .none)
 (h : ∀ h' T, Aft ((env :: outer).filterMap (·.frame)) [x] s.heap h' → s.heap.objs.size ≤ T → Rec h' x C dx (.ref T) → Tra h' T (rawInt L) → Q () { s with heap := h' }) :
 wpAny M A (noteFrame (.ref x) env) Q E s := by
 obtain ⟨oe, vs, he, rfl, rfl, hd, h1, hcx⟩ := r
 unfold noteFrame
 simp only [hf]
 refine wpAny_bind (wpAny_field he hd h1 ?_)
 rw [if_neg (by decide)]
 exact Qip hfr hl hf he hd (Array.getElem?_eq_some_iff.mp h1).1 hcx h
theorem Qeq {base : Heap} {env : Env} {outer : List Env} {L x T : Addr} {C : Value} {dx : Option Addr} {fl : Value} {Q : Unit → Shared → Prop}
 (hfr : A.frames = some (env :: outer)) (hl : s.heap.FunFrames base (env :: outer)) (hf : env.frame = some L) (r : Rec s.heap x C dx (.ref T)) (hx : T ≠ x) (t : Tra s.heap T fl)
 (h : ∀ h' T' fl', Aft ((env :: outer).filterMap (·.frame)) [x, T] s.heap h' → (T' = T ∨ s.heap.objs.size ≤ T') → Rec h' x C dx (.ref T') → Tra h' T' fl' → Q () { s with heap := h' }) :
 wpAny M A (noteFrame (.ref x) env) Q E s := by
 obtain ⟨oe, vs, he, rfl, rfl, hd, h1, hcx⟩ := r
 obtain ⟨oT, ts, hT, hdT, h3⟩ := t
 unfold noteFrame
 simp only [hf]
 refine wpAny_bind (wpAny_field he hd h1 ?_)
 rw [if_pos (show (Value.ref T != Value.none) = true from by simp)]
 refine wpAny_bind (wpAny_field hT hdT h3 ?_)
 by_cases hb : (fl == rawInt L) = true
 ·rw [if_pos hb]
  exact wpAny_pure (h s.heap T fl (Aft.refl ..) (.inl rfl) ⟨oe, vs, he, rfl, rfl, hd, h1, hcx⟩ ⟨oT, ts, hT, hdT, h3⟩)
 rw [if_neg hb]
 refine wpAny_bind (Qfy hT hdT (Array.getElem?_eq_some_iff.mp h3).1 fun h2 a2 e2 => ?_)
 have nT : ∀ b o, s.heap.get? b = some o → (∀ ws, o.data ≠ .fields ws) → b ∉ [T] := fun b o e hn z => by
  have z' : b = T := by simpa using z
  rw [z', hT] at e
  cases e
  exact hn ts hdT
 refine Qip hfr (hl.of_keeps fun b o e hn => ⟨o, a2.keep b o (by simp) (nT b o e hn) e, rfl⟩) hf (a2.keep x oe (by simp) (by simp [Ne.symm hx]) he) hd (Array.getElem?_eq_some_iff.mp h1).1 hcx fun h' T' a r' t' l => ?_
 refine h h' T' _ (Aft.trans (a2.mono (by simp) (by simp)) (a.mono (fun _ z => z) (by simp))) (.inr (Nat.le_trans a2.size r')) t' l
theorem Qbl {x T : Addr} {C : Value} {dx : Option Addr} {fl : Value} {Q : Unit → Shared → Prop} (r : Rec s.heap x C dx (.ref T)) (hx : T ≠ x) (t : Tra s.heap T fl)
 (h : ∀ h', Aft [] [T] s.heap h' → Rec h' x C dx (.ref T) → Tra h' T .none → Q () { s with heap := h' }) : wpAny M A (setFlight (.ref x) none) Q E s := by
 obtain ⟨oe, vs, he, rfl, rfl, hd, h1, hcx⟩ := r
 obtain ⟨oT, ts, hT, hdT, h3⟩ := t
 unfold setFlight
 refine wpAny_bind (wpAny_field he hd h1 ?_)
 rw [if_pos (show (Value.ref T != Value.none) = true from by simp)]
 have h3' := (Array.getElem?_eq_some_iff.mp h3).1
 refine Qfy hT hdT h3' fun h2 a2 e2 => h h2 a2 ⟨oe, vs, a2.keep x oe (by simp) (by simp [Ne.symm hx]) he, rfl, rfl, hd, h1, hcx⟩ ⟨_, _, e2, Obj.data_mapFields hdT _, ?_⟩
 simp [h3']
end
end L3
namespace L3
open PySem
def Rds {α : Type} (M : Model) (h : Heap) (t : Sem α) (r : α) : Prop :=
 ∀ (A : Around) (Q : α → Shared → Prop) (E : Q0) (s : Shared), (∀ b o, h.get? b = some o → s.heap.get? b = some o) → Q r s → wpAny M A t Q E s
structure XC (h : Heap) (C : Addr) (bm : List Value) : Prop where
 at_ : ∃ nm q N bs sn sub ab col dd k0 k1 k2 k3 k5, h.get? C = some (excClassObj nm q C N bs bm true sn sub ab col dd k0 k1 k2 k3 k5 "ValueError.__new__")
 val : bm.contains (.type "ValueError") = true
 bas : bm.contains (.type "BaseException") = true
 ob : bm.contains (.type "object") = true
 noA : bm.contains (.type "AttributeError") = false
 noN : bm.contains (.type "NameError") = false
theorem XC.keeps {h h' : Heap} {C : Addr} {bm : List Value} (x : XC h C bm) (k : ∀ b o, h.get? b = some o → h'.get? b = some o) : XC h' C bm := by
 obtain ⟨⟨nm, q, N, bs, sn, sub, ab, col, dd, k0, k1, k2, k3, k5, e⟩, h1, h2, h3, h4, h5⟩ := x
 exact ⟨⟨nm, q, N, bs, sn, sub, ab, col, dd, k0, k1, k2, k3, k5, k _ _ e⟩, h1, h2, h3, h4, h5⟩
theorem Qcb {C : Addr} {bm : List Value} {T : String} {b : Bool} (h : bm.contains (.type T) = b) : (Value.ref C :: bm).contains (.type T) = b := by
 rw [List.contains_cons, h]
 cases b <;> rfl
section
variable {P : Program} {w : World} {A : Around} {E : Q0} {h : Heap} {g : Array GenState} {d : Drawn} {t : Nat} {os : OsState} {C : Addr} {bm : List Value}
theorem Qiq {M : Model} {more : List Value} {Q : Unit → Shared → Prop} (x : XC h C bm) (hq : Q () ⟨h, g, d, t, os⟩) : wpAny M A (checkBuiltinCall "ValueError.__new__" ⟨.ref C :: more, []⟩) Q E ⟨h, g, d, t, os⟩ := by
 obtain ⟨⟨nm, q, N, bs, sn, sub, ab, col, dd, k0, k1, k2, k3, k5, cC⟩, val, bas, _, _, _⟩ := x
 have F := PySem.F.excBase_ValueError
 have c1 : (Value.ref C :: bm).contains (.type "ValueError") = true := Qcb val
 have star := F.noStar
 simp only [checkBuiltinCall, F.newKind, F.newSplit, F.newRow]
 repeat (first
  | refine wpAny_loadPart_at cC ?_
  | (refine wpAny_isSubtype_exc cC ?_; rw [c1])
  | refine wpAny_staticBase_exc cC ?_
  | refine wpAny_madeBy_exc cC ?_
  | simp only [bne_self_eq_false, Bool.false_eq_true, if_false]
  | wp_step)
 exact hq
theorem Qmu {more : List Value} {R : Result → Shared → Prop} (x : XC h C bm)
 (hq : R (.ok (.ret (.ref (h.objs.size + 1)))) ⟨(h.push { cls := .type "tuple", data := .seq more.toArray }).push { cls := .ref C, data := .fields #[.ref h.objs.size, .none, .none, .none, .bool false, .none] }, g, d, t, os⟩)
 (hrest : more.length ≤ sizeLine) : codeAny (model P w) A (.builtin "ValueError.__new__" ⟨.ref C :: more, []⟩) R ⟨h, g, d, t, os⟩ := by
 obtain ⟨⟨nm, q, N, bs, sn, sub, ab, col, dd, k0, k1, k2, k3, k5, cC⟩, val, bas, _, noA, noN⟩ := x
 have F := PySem.F.excBase_ValueError
 have ends := F.ends
 have c1 : (Value.ref C :: bm).contains (.type "ValueError") = true := Qcb val
 have c2 : (Value.ref C :: bm).contains (.type "AttributeError") = false := Qcb noA
 have c3 : (Value.ref C :: bm).contains (.type "NameError") = false := Qcb noN
 refine codeAny_builtinAt F.entry ?_
 unfold Builtin.«BaseException.__new__»
 refine wpAt_bind ?_
 show wpAt _ _ _ (stack >>= _) _ _ _
 refine wpAt_bind (wpAt_stack fun p below => wpAt_of_wpAny ?_)
 wp_walk
 refine wpAt_of_wpAny ?_
 rw [F.owner]
 repeat (first
  | with_reducible refine wpAny_madeHere_exc F.canon cC ?_
  | with_reducible refine wpAny_loadPart_at cC ?_
  | (with_reducible refine wpAny_isSubtype_exc cC ?_; first | rw [c1] | rw [c2] | rw [c3])
  | wp_step)
 show R _ _
 rw [Heap.size_push]
 exact hq
theorem Qjp {iv : Value} {more : List Value} {Q : PySem.Fin → Shared → Prop} (x : XC h C bm) (li : Rds (model P w) h (typeLookup (.ref C) "__init__") (some iv))
 (hrest : more.length ≤ sizeLine)
 (hq : ∀ h' e, Heap.MadeExcOf h h' e (.ref C) more → h.objs.size ≤ e → wpAny (model P w) A (bindSpecial iv (.ref e)) (fun p s1 => wpAny (model P w) A (call p.1 (p.2 ++ more)) (fun r s2 => r = .none ∧ Q (.done (.ret (.ref e))) s2) E s1) E ⟨h', g, d, t, os⟩) :
 wpAny (model P w) A (Builtin.«type.__call__» ⟨.ref C :: more, []⟩) Q E ⟨h, g, d, t, os⟩ := by
 have x0 := x
 obtain ⟨⟨nm, q, N, bs, sn, sub, ab, col, dd, k0, k1, k2, k3, k5, cC⟩, val, bas, _, noA, noN⟩ := x
 have F := PySem.F.excBase_ValueError
 repeat (first
  | with_reducible refine wpAny_loadPart_at cC ?_
  | with_reducible refine wpAny_madeBy_exc cC ?_
  | wp_step)
 refine codeAny_call_builtin_code (Code.quiet_builtin _ F.quiet) (Qiq x0 ?_)
 refine Qmu x0 ?_ hrest
 show wpAny _ _ _ _ _ _
 have up : ∀ b o, h.get? b = some o → ((h.push { cls := .type "tuple", data := .seq more.toArray }).push { cls := .ref C, data := .fields #[.ref h.objs.size, .none, .none, .none, .bool false, .none] }).get? b = some o :=
  fun b o e => Heap.get?_push_of_some _ (Heap.get?_push_of_some _ e)
 have cC1 := up _ _ cC
 have here : ((h.push { cls := .type "tuple", data := .seq more.toArray }).push { cls := .ref C, data := .fields #[.ref h.objs.size, .none, .none, .none, .bool false, .none] }).get? (h.objs.size + 1) =
  some { cls := .ref C, data := .fields #[.ref h.objs.size, .none, .none, .none, .bool false, .none] } := by heap_get
 have c0 : (Value.ref C :: bm).contains (.ref C) = true := by simp
 unfold isInstance
 repeat (first
  | with_reducible refine wpAny_loadPart_at here ?_
  | (with_reducible refine wpAny_isSubtype_exc cC1 ?_; rw [c0])
  | wp_step)
 show wpAny _ _ (typeLookup (.ref C) _) _ _ _
 refine li _ _ _ _ up ?_
 refine wpAny_holding (wpAny_bind (wpAny_mono (hq _ (h.objs.size + 1) ⟨up, Heap.get?_none_of_le (Nat.le_succ _), h.objs.size, here, Heap.get?_none_of_le (Nat.le_refl _), ?_⟩ (Nat.le_succ _)) (fun p s1 h1 => ?_) fun _ _ z => z))
 ·exact Heap.get?_push_of_some _ (Heap.get?_push_at rfl rfl)
 ·obtain ⟨p1, p2⟩ := p
  refine wpAny_bind (wpAny_mono h1 (fun r s2 hr => ?_) fun _ _ z => z)
  obtain ⟨rfl, hQ⟩ := hr
  wp_walk
  exact hQ
end
end L3
namespace L3
open PySem
section
variable {P : Program} {w : World} {A : Around} {E : Q0} {h : Heap} {g : Array GenState} {d : Drawn} {t : Nat} {os : OsState} {C : Addr} {bm : List Value}
theorem Qho {iv : Value} {more : List Value} {Q : Q0} (x : XC h C bm) (li : Rds (model P w) h (typeLookup (.ref C) "__init__") (some iv)) (hrest : more.length ≤ sizeLine)
 (hq : ∀ h' e, Heap.MadeExcOf h h' e (.ref C) more → h.objs.size ≤ e → wpAny (model P w) (A.under (.builtin "type.__call__" ⟨.ref C :: more, []⟩)) (bindSpecial iv (.ref e))
  (fun p s1 => wpAny (model P w) (A.under (.builtin "type.__call__" ⟨.ref C :: more, []⟩)) (call p.1 (p.2 ++ more)) (fun r s2 => r = .none ∧ Q (.ref e) s2) E s1) E ⟨h', g, d, t, os⟩) :
 wpAny (model P w) A (call (.ref C) more) Q E ⟨h, g, d, t, os⟩ := by
 have x0 := x
 obtain ⟨⟨nm, q, N, bs, sn, sub, ab, col, dd, k0, k1, k2, k3, k5, cC⟩, _⟩ := x
 have f1 := tc_lookup
 have f2 := tc_bind (.ref C)
 have ty : (⟨h, g, d, t, os⟩ : Shared).TypeIs (.ref C) "type" := ⟨_, cC, rfl⟩
 refine wpAny_call (codeAny_of_tree ?_)
 show wpAny _ _ (callAny (.ref C) _) _ _ _
 repeat (any_goals (first
  | assumption
  | with_reducible refine wpAny_loadPart_at cC ?_
  | wp_step))
 refine ⟨rfl, ?_⟩
 exact codeAny_call_builtin_at (Code.quiet_builtin _ (by decide+kernel)) entry_typeCall (wpAny_check_type_call_sub cC (Qjp x0 li hrest fun h' e hm hs => hq h' e hm hs))
def Bare (s : Shared) (e C : Addr) : Prop := ∃ dx t, s.heap.get? e = some { cls := .ref C, dict := dx, data := .fields #[.ref t, .none, .none, .none, .bool false, .none] }
theorem Qfa {env : Env} {s : Shared} {x : Sem Value} {Q : Flow → Shared → Prop} (hh : A.handled = none)
 (hx : wpAny (model P w) A x (fun v s1 => ∃ e, v = .ref e ∧ XC s1.heap C bm ∧ Bare s1 e C ∧ E (.ref e) s1) E s) : wpAny (model P w) A (raiseStmt env (some x) none) Q E s := by
 unfold raiseStmt
 refine wpAny_bind (wpAny_mono hx (fun v s1 h1 => ?_) fun _ _ z => z)
 obtain ⟨e, rfl, xc, ⟨dx, tt, he⟩, hE⟩ := h1
 obtain ⟨⟨nm, q, N, bs, sn, sub, ab, col, dd, k0, k1, k2, k3, k5, cC⟩, _, bas, _⟩ := xc
 have c1 : (Value.ref C :: bm).contains (.type "BaseException") = true := Qcb bas
 obtain ⟨hp, g1, d1, tk, os1⟩ := s1
 repeat (first
  | with_reducible refine wpAny_loadPart_at he ?_
  | with_reducible refine wpAny_loadPart_at cC ?_
  | (with_reducible refine wpAny_isSubtype_exc cC ?_; rw [c1])
  | wp_step)
 exact wpAny_raiseNew_none hh hE
theorem Qhg {env : Env} {s : Shared} {x : Str} {np cpos pos : Pos} {args : List Expr} {iv : Value} {Q : Flow → Shared → Prop} (hh : A.handled = none) (hplain : (backTo cpos (starEach args env)).any (·.1) = false)
 (hx : wpAny (model P w) A (eval (.Name x np) env) (fun f s1 => f = .ref C ∧ wpAny (model P w) A (evalArgs (.ref C) true (backTo cpos (starEach args env)) [])
  (fun a s2 => a.kw = [] ∧ a.pos.length ≤ sizeLine ∧ XC s2.heap C bm ∧ Rds (model P w) s2.heap (typeLookup (.ref C) "__init__") (some iv) ∧
   ∀ h' e, Heap.MadeExcOf s2.heap h' e (.ref C) a.pos → s2.heap.objs.size ≤ e → wpAny (model P w) (A.under (.builtin "type.__call__" ⟨.ref C :: a.pos, []⟩)) (bindSpecial iv (.ref e))
     (fun p s3 => wpAny (model P w) (A.under (.builtin "type.__call__" ⟨.ref C :: a.pos, []⟩)) (call p.1 (p.2 ++ a.pos)) (fun r s4 => r = .none ∧ XC s4.heap C bm ∧ Bare s4 e C ∧ E (.ref e) s4) E s3) E { s2 with heap := h' }) E s1) E s) :
 wpAny (model P w) A (exec (.Raise (some (.Call (.Name x np) args [] cpos)) none pos) env) Q E s := by
 rw [arm_exec_Raise]
 have go : wpAny (model P w) A (eval (.Call (.Name x np) args [] cpos) env) (fun v s1 => ∃ e, v = .ref e ∧ XC s1.heap C bm ∧ Bare s1 e C ∧ E (.ref e) s1) E s := by
  refine wpAny_Call_ofName (wpAny_mono hx (fun f s1 h1 => ?_) fun _ _ z => z)
  obtain ⟨rfl, h1⟩ := h1
  unfold callWith
  refine wpAny_bind (wpAny_holding (wpAny_mono h1 (fun a s2 h2 => wpAny_bind (wpAny_standAt ?_)) fun _ _ z => z))
  obtain ⟨ap, ak⟩ := a
  obtain ⟨hkw, hlen, xc, li, h2⟩ := h2
  obtain rfl : ak = [] := hkw
  obtain ⟨hp, g1, d1, tk, os1⟩ := s2
  simp only [hplain]
  obtain ⟨⟨nm, q, N, bs, sn, sub, ab, col, dd, k0, k1, k2, k3, k5, cC⟩, _⟩ := id xc
  refine wpAny_bind (wpAny_keeperOf_exc cC ?_)
  refine wpAny_bind (Qho xc li hlen fun h' e hm hs => wpAny_mono (h2 h' e hm hs) (fun p s3 h3 => wpAny_mono h3 (fun r s4 h4 => ?_) fun _ _ z => z) fun _ _ z => z)
  exact ⟨h4.1, wpAny_bind (wpAny_holding (wpAny_point (wpAny_pure ⟨e, rfl, h4.2⟩)))⟩
 first
  | refine wpAny_bind (wpAny_standAt (Qfa (C := C) (bm := bm) hh (wpAny_bind (wpAny_mono go (fun v s3 h3 => wpAny_bind (wpAny_standAt (wpAny_pure h3))) fun _ _ z => z))))
  | (simp only [evalOpt, Option.map]; refine wpAny_bind (wpAny_standAt (Qfa (C := C) (bm := bm) hh (wpAny_bind (wpAny_mono go (fun v s3 h3 => wpAny_bind (wpAny_standAt (wpAny_pure h3))) fun _ _ z => z)))))
end
end L3
namespace L3
open PySem
section
variable {P : Program} {w : World} {A : Around} {E : Q0} {h h' : Heap} {g : Array GenState} {d : Drawn} {t : Nat} {os : OsState} {C : Addr} {bm : List Value}
end
end L3
namespace L3
open PySem Builtin Builtin.ObjectAttr
section
variable {P : Program} {w : World} {A : Around} {E : Q0} {h : Heap} {g : Array GenState} {d : Drawn} {t : Nat} {os : OsState} {C x : Addr} {bm : List Value}
 {mA : Str → Option Value} {name : Str} {v : Value} {B : String} {bmB : List Value}
theorem Rds.go {α : Type} {M : Model} {r : α} {u : Sem α} {s : Shared} {Q : α → Shared → Prop} (l : Rds M h u r) (k : ∀ b o, h.get? b = some o → s.heap.get? b = some o) (q : Q r s) : wpAny M A u Q E s := l A Q E s k q
def Stored (h : Heap) (x C : Addr) (mA : Str → Option Value) (name : Str) (v : Value) (h' : Heap) : Prop :=
 h'.Inst x C (fun y => if y = name then some v else mA y) ∧
 (∀ b o, b ≠ x → (∀ o0 dx, h.get? x = some o0 → o0.dict = some dx → b ≠ dx) → h.get? b = some o → h'.get? b = some o) ∧
 (∀ o0, h.get? x = some o0 → ∃ o1, h'.get? x = some o1 ∧ o1.cls = o0.cls ∧ o1.data = o0.data ∧ o1.slots = o0.slots ∧ ∀ dx, o0.dict = some dx → o1.dict = some dx) ∧
 (∀ o0, h.get? x = some o0 → o0.dict = none → ∃ o1, h'.get? x = some o1 ∧ o1.dict = some h.objs.size)
theorem Qh7 {M : Model} {o : Obj} {nameV : Value} {Q : Unit → Shared → Prop} (SF : StoreFacts B bmB "object.__setattr__" "object") (xc : XC h C bm) (hx : h.get? x = some o) (hc : o.cls = .ref C)
 (hq : Q () ⟨h, g, d, t, os⟩) : wpAny M A (checkBuiltinCall "object.__setattr__" ⟨[.ref x, nameV, v], []⟩) Q E ⟨h, g, d, t, os⟩ := by
 obtain ⟨⟨nm, q, N, bs, sn, sub, ab, col, dd, k0, k1, k2, k3, k5, cC⟩, _, _, ob, _, _⟩ := xc
 have c1 : (Value.ref C :: bm).contains (.type "object") = true := Qcb ob
 simp only [checkBuiltinCall, SF.kind, SF.split]
 refine wpAny_bind ?_
 ·unfold isInstance
  repeat (first
   | (with_reducible refine wpAny_loadPart_at hx ?_; rw [hc])
   | (with_reducible refine wpAny_isSubtype_exc cC ?_; rw [c1])
   | wp_step)
  exact hq
theorem Qh6 {tk : Tok} {Q : PySem.Fin → Shared → Prop} {ns : List Str} (xc : XC h C bm) (hpass : ∀ self, refuseLoop self "__setattr__" bm = pure ()) (la : Rds (model P w) h (typeLookup (.ref C) name) none) (I : h.Inst x C mA)
 (hw : Within mA ns) (hsz : ns.length ≤ sizeLine) (hq : ∀ h' tk', Stored h x C mA name v h' → Q (.done (.ret .none)) ⟨h', g, d, tk', os⟩) :
 wpAny (model P w) A (Builtin.«object.__setattr__» ⟨[.ref x, .str name tk, v], []⟩) Q E ⟨h, g, d, t, os⟩ := by
 obtain ⟨⟨nm, q, N, bs, sn, sub, ab, col, dd, k0, k1, k2, k3, k5, cC⟩, _⟩ := xc
 obtain ⟨o, hx, hc, hnc, hd⟩ := I
 have hp := hpass (.ref x)
 unfold Builtin.«object.__setattr__»
 repeat (first
  | rw [refuse_eq]
  | (rw [refuseLoop_ref, hp])
  | (with_reducible refine wpAny_loadPart_at hx ?_; rw [hc])
  | with_reducible refine wpAny_mroOf_exc cC ?_
  | with_reducible refine Rds.go la (fun _ _ z => z) ?_
  | wp_step)
 rcases hd with ⟨hdn, hmA⟩ | ⟨dx, hdx, hne, hns⟩
 ·rw [hdn, if_neg (by simp [typeHasDict])]
  split
  ·rename_i z
   cases z
  split
  ·rename_i c z
   exact absurd z (hnc c)
  ·have hx1 : (h.push { cls := .type "dict", data := .dict #[] }).get? x = some o := Heap.get?_push_of_some _ hx
   have hxs : x ≠ h.objs.size := Nat.ne_of_lt (Heap.lt_size hx)
   refine wpAny_bind (wpAny_alloc' ?_)
   refine wpAny_bind (wpAny_update' hx1 ?_)
   refine wpAny_pure ?_
   have g1 : ((h.push { cls := .type "dict", data := .dict #[] }).update x fun o => { cls := o.cls, dict := some h.objs.size, data := o.data, slots := o.slots }).get? h.objs.size =
    some { cls := .type "dict", data := .dict #[] } := (Heap.get?_update_ne _ _ _ _ hxs.symm).trans (Heap.get?_push_at rfl rfl)
   have g2 : ((h.push { cls := .type "dict", data := .dict #[] }).update x fun o => { cls := o.cls, dict := some h.objs.size, data := o.data, slots := o.slots }).Ns h.objs.size (fun _ => none) :=
    ⟨_, #[], _, g1, rfl, (fun e he => absurd he (by simp)), fun _ => rfl⟩
   show wpAny _ _ (storeInDict h.objs.size (.str name tk) name v) _ _ _
   unfold storeInDict newKeyGuard
   refine wpAny_bind (wpAny_pure (wpAny_bind (wpAny_nsSet1 (Heap.Ns1.of_empty g2) fun h' hn' hs => ?_)))
   obtain ⟨oD, esD, epD, hoD, hdD, hcD⟩ := hn'.count (Within.cons name v Within.nil)
   refine wpAny_bind (wpAny_lookBehind hoD (by rw [hdD]; exact pastItsLine_dict (Nat.le_trans hcD (by rw [List.length_cons, List.length_nil, sizeLine_eq]; omega))) ?_)
   wp_walk
   have hx' : h'.get? x = some { cls := o.cls, dict := some h.objs.size, data := o.data, slots := o.slots } := by
    refine (hs.2 x hxs).trans (Heap.get?_update_self _ hx1 ?_)
    have fr := (Heap.get?_some_iff.mp hx).2
    obtain ⟨oc, od, odt, osl⟩ := o
    cases odt <;> first | rfl | exact fr
   refine hq h' _ ⟨⟨_, hx', hc, hnc, .inr ⟨h.objs.size, rfl, hxs.symm, ?_⟩⟩, fun b ob hbx _ hb => ?_, fun o0 h0 => ?_, fun o0 h0 _ => ⟨_, hx', rfl⟩⟩
   ·obtain ⟨o', es, ep, e1, e2, e3, eu, e4⟩ := hn'
    exact ⟨o', es, ep, e1, e2, e3, eu, fun y => by rw [e4 y]; by_cases hy : y = name <;> simp [hy, hmA]⟩
   ·exact (hs.2 b (Nat.ne_of_lt (Heap.lt_size hb))).trans ((Heap.get?_update_ne _ _ _ _ hbx).trans (Heap.get?_push_of_some _ hb))
   ·obtain rfl : o = o0 := Option.some.inj (hx.symm.trans h0)
    exact ⟨_, hx', rfl, rfl, rfl, fun dx e => by rw [hdn] at e; cases e⟩
 ·rw [hdx]
  refine wpAny_pure ?_
  show wpAny _ _ (storeInDict dx (.str name tk) name v) _ _ _
  unfold storeInDict newKeyGuard
  refine wpAny_bind (wpAny_pure (wpAny_bind (wpAny_nsSet1 hns fun h' hn' hs => ?_)))
  obtain ⟨oD, esD, epD, hoD, hdD, hcD⟩ := hn'.count (Within.cons name v hw)
  refine wpAny_bind (wpAny_lookBehind hoD (by rw [hdD]; exact pastItsLine_dict (Nat.le_trans hcD (by rw [List.length_cons]; omega))) ?_)
  wp_walk
  refine hq h' _ ⟨⟨o, (hs.2 x hne.symm).trans hx, hc, hnc, .inr ⟨dx, hdx, hne, hn'⟩⟩, fun b ob _ hbd hb => ?_, fun o0 h0 => ⟨o0, (hs.2 x hne.symm).trans h0, rfl, rfl, rfl, fun _ e => e⟩, fun o0 h0 hn0 => ?_⟩
  ·exact (hs.2 b (hbd o dx hx hdx)).trans hb
  ·obtain rfl : o = o0 := Option.some.inj (hx.symm.trans h0)
   rw [hdx] at hn0
   cases hn0
theorem Qgn {Q : Unit → Shared → Prop} {ns : List Str} (SF : StoreFacts B bmB "object.__setattr__" "object") (xc : XC h C bm) (hpass : ∀ self, refuseLoop self "__setattr__" bm = pure ())
 (ls : Rds (model P w) h (typeLookup (.ref C) "__setattr__") (some (.builtin "object.__setattr__"))) (la : Rds (model P w) h (typeLookup (.ref C) name) none) (I : h.Inst x C mA) (hw : Within mA ns) (hsz : ns.length ≤ sizeLine)
 (hq : ∀ h' tk', Stored h x C mA name v h' → Q () ⟨h', g, d, tk', os⟩) : wpAny (model P w) A (setAttr (.ref x) name v) Q E ⟨h, g, d, t, os⟩ := by
 obtain ⟨o, hx, hc, _⟩ := id I
 have f3 := SF.slot.bind (.ref x)
 unfold setAttr callSpecial? specialOf
 repeat (any_goals (first
  | assumption
  | (with_reducible refine wpAny_loadPart_at hx ?_; rw [hc])
  | with_reducible refine Rds.go ls (fun _ _ z => z) ?_
  | wp_step))
 refine codeAny_call_builtin SF.slot.plain SF.entry (Qh7 SF xc hx hc (Qh6 xc hpass la I hw hsz fun h' tk' st => ?_))
 repeat (any_goals (first | assumption | wp_step))
 exact hq h' tk' st
end
end L3
namespace L3
open PySem Builtin Builtin.ObjectAttr
section
variable {P : Program} {w : World} {A : Around} {E : Q0} {h : Heap} {g : Array GenState} {d : Drawn} {t : Nat} {os : OsState} {C x dx : Addr} {bm : List Value}
 {mA : Str → Option Value} {name : Str} {v : Value} {o : Obj} {vs : Array Value}
theorem Qfi {M : Model} {nameV : Value} {Q : Unit → Shared → Prop} (xc : XC h C bm) (hx : h.get? x = some o) (hc : o.cls = .ref C) (hq : Q () ⟨h, g, d, t, os⟩) :
 wpAny M A (checkBuiltinCall "BaseException.__getattribute__" ⟨[.ref x, nameV], []⟩) Q E ⟨h, g, d, t, os⟩ := by
 obtain ⟨⟨nm, q, N, bs, sn, sub, ab, col, dd, k0, k1, k2, k3, k5, cC⟩, _, bas, _, _, _⟩ := xc
 have f1 : builtinKind "BaseException.__getattribute__" = some .slot := by decide+kernel
 have f2 : splitId "BaseException.__getattribute__" = some ("BaseException", "__getattribute__") := by decide+kernel
 have c1 : (Value.ref C :: bm).contains (.type "BaseException") = true := Qcb bas
 have ha := PySem.F.args_bexc_ga (.ref x) nameV
 simp only [checkBuiltinCall, f1, f2]
 refine wpAny_bind ?_
 unfold isInstance
 repeat (first
  | (with_reducible refine wpAny_loadPart_at hx ?_; rw [hc])
  | (with_reducible refine wpAny_isSubtype_exc cC ?_; rw [c1])
  | wp_step)
 exact hq
theorem Qjg {tk : Tok} {Q : PySem.Fin → Shared → Prop} (xc : XC h C bm) (la : Rds (model P w) h (typeLookup (.ref C) name) none) (hx : h.get? x = some o) (hc : o.cls = .ref C) (hd : o.data = .fields vs) (hdx : o.dict = some dx)
 (hn : h.Ns1 dx mA) (hv : mA name = some v) (hq : Q (.done (.ret v)) ⟨h, g, d, t, os⟩) :
 wpAny (model P w) A (Builtin.«object.__getattribute__» ⟨[.ref x, .str name tk], []⟩) Q E ⟨h, g, d, t, os⟩ := by
 obtain ⟨⟨nm, q, N, bs, sn, sub, ab, col, dd, k0, k1, k2, k3, k5, cC⟩, _⟩ := xc
 obtain ⟨oc, od, odt, osl⟩ := o
 dsimp only at hc hd hdx
 subst hc hd hdx
 repeat (any_goals (first
  | assumption
  | with_reducible refine wpAny_loadPart_at hx ?_
  | with_reducible refine wpAny_loadPart_at cC ?_
  | with_reducible refine Rds.go la (fun _ _ z => z) ?_
  | with_reducible refine wpAny_nsGet hn.ns ?_
  | wp_step))
 rw [hv]
 repeat (any_goals (first | assumption | wp_step))
theorem Qky {ex : Bool} {Q : Q0} (FB : ExcAttrFacts "ValueError") (xc : XC h C bm) (lg : Rds (model P w) h (typeLookup (.ref C) "__getattribute__") (some (.builtin "BaseException.__getattribute__")))
 (lh : Rds (model P w) h (typeLookup (.ref C) "__getattr__") none) (la : Rds (model P w) h (typeLookup (.ref C) name) none) (hx : h.get? x = some o) (hc : o.cls = .ref C) (hd : o.data = .fields vs) (hdx : o.dict = some dx)
 (hn : h.Ns1 dx mA) (hv : mA name = some v) (hh : handedOut v = pure v) (hq : Q v ⟨h, g, d, t + 1, os⟩) : wpAny (model P w) A (getAttr (.ref x) name ex) Q E ⟨h, g, d, t, os⟩ := by
 have f3 := FB.ga.bind (.ref x)
 have e0 : (ex && onTheHeap (Value.builtin "BaseException.__getattribute__")) = false := by cases ex <;> rfl
 have e2 : (Value.builtin "BaseException.__getattribute__" == Value.builtin "object.__getattribute__") = false := by decide+kernel
 have e1 : (onTheHeap (Value.ref C) && Value.builtin "BaseException.__getattribute__" == Value.builtin "object.__getattribute__") = false := by rw [e2]; rfl
 unfold getAttr
 repeat (any_goals (first
  | assumption
  | (with_reducible refine wpAny_loadPart_at hx ?_; rw [hc])
  | with_reducible refine Rds.go lg (fun _ _ z => z) ?_
  | with_reducible refine Rds.go lh (fun _ _ z => z) ?_
  | wp_step))
 refine codeAny_call_builtin FB.ga.plain PySem.F.entry_bexc_ga (Qfi xc hx hc (Qjg xc la hx hc hd hdx hn hv ?_))
 repeat (any_goals (first | assumption | wp_step))
end
end L3
namespace L3
open PySem Builtin Builtin.ObjectAttr
section
variable {P : Program} {w : World} {A : Around} {E : Q0} {h : Heap} {g : Array GenState} {d : Drawn} {t : Nat} {os : OsState} {C x : Addr} {bm : List Value} {o : Obj}
theorem Qnm {R : Result → Shared → Prop} (xc : XC h C bm) (hx : h.get? x = some o) (hc : o.cls = .ref C) (hq : R (.ok (.ret (.ref C))) ⟨h, g, d, t, os⟩) :
 codeAny (model P w) A (.call (.builtin "getset_descriptor.__get__") ⟨[.builtin "object.__class__", .ref x, .ref C], []⟩) R ⟨h, g, d, t, os⟩ := by
 obtain ⟨⟨nm, q, N, bs, sn, sub, ab, col, dd, k0, k1, k2, k3, k5, cC⟩, _, _, ob, _, _⟩ := xc
 have ty : (⟨h, g, d, t, os⟩ : Shared).TypeIs (.builtin "object.__class__") "getset_descriptor" := PySem.F.typeOf_object_class
 have c1 : (Value.ref C :: bm).contains (.type (".".intercalate ("object.__class__".cutAt '.').dropLast)) = true := by
  rw [PySem.F.owner_object_class]
  exact Qcb ob
 refine codeAny_call_builtin PySem.F.slot_gs_get.plain PySem.F.entry_gs_get (PySem.F.slot_gs_get.check _ _ _ _ _ _ _ _ ty (PySem.F.args_gs_get _ _ _) ?_)
 repeat (any_goals (first
  | assumption
  | (with_reducible refine wpAny_loadPart_at hx ?_; rw [hc])
  | (with_reducible refine wpAny_isSubtype_exc cC ?_; rw [c1])
  | wp_step))
 refine ⟨Code.quiet_builtin _ (by decide+kernel), codeAny_builtin PySem.F.entry_object_class ?_⟩
 repeat (any_goals (first
  | assumption
  | (with_reducible refine wpAny_loadPart_at hx ?_; rw [hc])
  | wp_step))
theorem Qjo {tk : Tok} {Q : PySem.Fin → Shared → Prop} (xc : XC h C bm) (lc : Rds (model P w) h (typeLookup (.ref C) "__class__") (some (.builtin "object.__class__"))) (hx : h.get? x = some o) (hc : o.cls = .ref C)
 (hq : Q (.done (.ret (.ref C))) ⟨h, g, d, t, os⟩) : wpAny (model P w) A (Builtin.«object.__getattribute__» ⟨[.ref x, .str "__class__" tk], []⟩) Q E ⟨h, g, d, t, os⟩ := by
 have ty : (⟨h, g, d, t, os⟩ : Shared).TypeIs (.builtin "object.__class__") "getset_descriptor" := PySem.F.typeOf_object_class
 have f5 := PySem.F.typeOf_object_class
 have f6 := PySem.F.slot_gs_get.lookup
 have f7 := PySem.F.slot_gs_set.lookup
 repeat (any_goals (first
  | assumption
  | (with_reducible refine wpAny_loadPart_at hx ?_; rw [hc])
  | with_reducible refine Rds.go lc (fun _ _ z => z) ?_
  | wp_step))
 refine Qnm xc hx hc ?_
 repeat (any_goals (first | assumption | wp_step))
theorem Qk3 {Q : Option Value → Shared → Prop} (FB : ExcAttrFacts "ValueError") (xc : XC h C bm) (lg : Rds (model P w) h (typeLookup (.ref C) "__getattribute__") (some (.builtin "BaseException.__getattribute__")))
 (lh : Rds (model P w) h (typeLookup (.ref C) "__getattr__") none) (lc : Rds (model P w) h (typeLookup (.ref C) "__class__") (some (.builtin "object.__class__"))) (hx : h.get? x = some o) (hc : o.cls = .ref C)
 (hq : Q (some (.ref C)) ⟨h, g, d, t + 1, os⟩) : wpAny (model P w) A (getAttr? (.ref x) "__class__") Q E ⟨h, g, d, t, os⟩ := by
 have f3 := FB.ga.bind (.ref x)
 have e0 : (false && onTheHeap (Value.builtin "BaseException.__getattribute__")) = false := rfl
 have e2 : (Value.builtin "BaseException.__getattribute__" == Value.builtin "object.__getattribute__") = false := by decide+kernel
 have e1 : (onTheHeap (Value.ref C) && Value.builtin "BaseException.__getattribute__" == Value.builtin "object.__getattribute__") = false := by rw [e2]; rfl
 unfold getAttr? getAttrBy?
 repeat (any_goals (first
  | assumption
  | (with_reducible refine wpAny_loadPart_at hx ?_; rw [hc])
  | with_reducible refine Rds.go lg (fun _ _ z => z) ?_
  | with_reducible refine Rds.go lh (fun _ _ z => z) ?_
  | wp_step))
 refine codeAny_call_builtin FB.ga.plain PySem.F.entry_bexc_ga (Qfi xc hx hc (Qjo xc lc hx hc ?_))
 repeat (any_goals (first | assumption | wp_step))
end
end L3
namespace L2
open PySem PySem.Spec PyProof.Rows L3
def onlyVal : List Value → Bool
 | .ref _ :: r => onlyVal r
 | l => l == [.type "ValueError", .type "Exception", .type "BaseException", .type "object"]
theorem Qhf (self : Value) {l : List Value} (e : onlyVal l = true) : refuseLoop self "__setattr__" l = pure () := by
 induction l with
 | nil => cases e
 | cons c r ih =>
   cases c with
   | ref a =>
     rw [refuseLoop_ref]
     exact ih e
   | type n =>
     rw [show Value.type n :: r = [.type "ValueError", .type "Exception", .type "BaseException", .type "object"] from beq_iff_eq.mp e]
     exact PySem.F.store_ValueError.passes self
   | _ => exact absurd (beq_iff_eq.mp e) (by simp)
def bmOf (K : Q4) (C : Addr) : List Value := match K.lookup C with
 | some ⟨_, _, .cls cd, _⟩ => cd.mro.tail
 | _ => []
def xclsIn (K : Q4) (C : Addr) : Bool := match K.lookup C with
 | some ⟨.type "type", _, .cls cd, sl⟩ => (match cd.mro, sl.toList with
   | .ref C' :: bm, [_, _, _, _, some (.builtin n), _] => C' == C && !cd.hasDel && cd.hasDict && n == "ValueError.__new__" && bm.contains (.type "ValueError") && bm.contains (.type "BaseException") && bm.contains (.type "object") && !bm.contains (.type "AttributeError") && !bm.contains (.type "NameError") && onlyVal bm
   | _, _ => false)
 | _ => false
theorem xc_of {K : Q4} {h : Heap} {C : Addr} (X : K.In h) (q : xclsIn K C = true) : XC h C (bmOf K C) ∧ onlyVal (bmOf K C) = true := by
 unfold xclsIn at q
 split at q
 ·rename_i dd cd sl ho
  split at q
  ·rename_i C' bm k0 k1 k2 k3 n k5 hm hs
   simp only [Bool.and_eq_true, beq_iff_eq, Bool.not_eq_true'] at q
   obtain ⟨⟨⟨⟨⟨⟨⟨⟨⟨rfl, hdel⟩, hhd⟩, rfl⟩, hv⟩, hb⟩, hob⟩, hA⟩, hN⟩, ho'⟩ := q
   have eb : bmOf K C' = bm := by
    unfold bmOf
    rw [ho]
    show cd.mro.tail = bm
    rw [hm]
    rfl
   obtain ⟨nm, bs, mro, ns, qn, hd, sn, sub, ab, col, del⟩ := cd
   dsimp only at hm hdel hhd
   subst hm hdel hhd
   have hsl : sl = #[k0, k1, k2, k3, some (.builtin "ValueError.__new__"), k5] := by
    obtain ⟨l⟩ := sl
    simp only at hs
    rw [hs]
   subst hsl
   rw [eb]
   exact ⟨⟨⟨nm, qn, ns, bs, sn, sub, ab, col, dd, k0, k1, k2, k3, k5, X _ _ ho⟩, hv, hb, hob, hA, hN⟩, ho'⟩
  ·cases q
 ·cases q
structure XCls (K : Q4) (C : Addr) : Prop where
 sh : xclsIn K C = true
 ga : findIn K (.ref C) "__getattribute__" = some (some (.builtin "BaseException.__getattribute__"))
 gh : findIn K (.ref C) "__getattr__" = some none
 sa : findIn K (.ref C) "__setattr__" = some (some (.builtin "object.__setattr__"))
 cl : findIn K (.ref C) "__class__" = some (some (.builtin "object.__class__"))
theorem Qcj {K : Q4} {M : Model} {h : Heap} {C : Addr} {name : Str} {r : Option Value} (X : K.In h) (e : findIn K (.ref C) name = some r) : Rds M h (typeLookup (.ref C) name) r := PySem.W.looks_findIn X e
theorem XCls.xc {K : Q4} {h : Heap} {C : Addr} (c : XCls K C) (X : K.In h) : XC h C (bmOf K C) := (xc_of X c.sh).1
theorem XCls.pass {K : Q4} {h : Heap} {C : Addr} (c : XCls K C) (X : K.In h) (self : Value) : refuseLoop self "__setattr__" (bmOf K C) = pure () := Qhf self (xc_of X c.sh).2
section
variable {X : Cx} {pins : Q3} {σ : St} {H : Hp} {s : Shared} {h' : Heap}
theorem aft {ch : List Addr} (I : Inv X pins σ H s) (a : Aft (frs X.stack) ch s.heap h') (hc : ∀ b ∈ ch, FpOk X pins H b) : Inv X pins σ H { s with heap := h' } := by
 have nS : ∀ b, b ≠ X.env.locals → b ∉ X.fs → b ∉ frs X.stack := fun b h1 h2 z => (List.mem_cons.mp (I.stkSub b z)).elim h1 h2
 refine I.step (g' := s.gens) (d' := s.drawn) (t' := s.toks) (ch := ch) (fun b hb => ?_) (fun b o h1 h2 h3 e _ => a.keep b o (nS b h1 h2) h3 e) (fun b o _ _ h3 e _ => a.slot b o h3 e) (fun _ _ _ _ n => n)
  (fun b o h3 e => ?_) (fun _ _ e => e) (fun _ _ _ e => e) (fun b ps e => ⟨#[], by rw [e]; simp⟩) (fun m hm => ?_) (fun b u e => ?_) I.bare
 ·obtain ⟨_, f1, _, f3, f4, f5⟩ := hc b hb
  exact ⟨f3, f1, f4, f5⟩
 ·obtain ⟨sl, q⟩ := a.slot b o h3 e
  exact ⟨_, q⟩
 ·obtain ⟨o, es, ep, ho, r⟩ := hm
  obtain ⟨sl, q⟩ := a.slot _ o (fun z => (hc _ z).2.1 rfl) ho
  exact ⟨_, es, ep, q, r⟩
 ·refine (I.hok b u e).stay (fun c v hb q => a.keep c v (fun z => ?_) (fun z => ?_) q) (fun _ q => q) fun _ _ q => q
  ·rcases hb with rfl | hb
   ·rw [I.stkFree c z] at e; cases e
   ·rw [I.stkFree c z] at hb; cases hb
  ·rcases hb with rfl | hb
   ·rw [(hc c z).1] at e; cases e
   ·rw [(hc c z).1] at hb; cases hb
theorem track {x : Addr} {o : HO} (I : Inv X pins σ H s) (f : FpOk X pins H x) (new : ObjOk X.prog X.w (upd H x o) s.heap x o) : Inv X pins σ (upd H x o) s := by
 obtain ⟨f0, f1, f2, f3, f4, f5⟩ := f
 have nx : ∀ b u, H b = some u → b ≠ x := fun b u e z => by rw [z, f0] at e; cases e
 refine ⟨I.ok, I.os, I.bare, ⟨I.base.keep, I.base.slot, fun b ob e n hx => ?_, I.base.there, fun b xs e => ?_, fun b ob u e => ?_, fun b ps e => ?_⟩, I.loc, I.cell, ?_, fun y c e => ?_, fun p hp => ?_, fun b u e => ?_, I.len⟩
 ·have hb : b ≠ x := fun z => by
   rcases f3 with q | q
   ·exact hx (z ▸ q)
   ·exact absurd (Nat.lt_of_lt_of_le (Heap.lt_size e) (z ▸ q)) (Nat.lt_irrefl _)
  rw [Qah hb]
  exact I.base.free b ob e n hx
 ·have q := I.base.tups b xs e
  rw [Qah (nx _ _ q)]
  exact q
 ·have q := I.base.frzs b ob u e
  rw [Qah (nx _ _ q)]
  exact q
 ·obtain ⟨more, q⟩ := I.base.tbls b ps e
  exact ⟨more, by rw [Qah (nx _ _ q)]; exact q⟩
 ·rw [Qah (Ne.symm f1)]
  exact I.free
 ·rw [Qah (f4 y c e)]
  exact I.freeC y c e
 ·obtain ⟨e, n, ne, nf, d⟩ := I.pin p hp
  exact ⟨e, by rw [Qah (f5 p hp)]; exact n, ne, nf, d⟩
 ·by_cases hb : b = x
  ·subst hb
   rw [Qab] at e
   cases e
   exact new
  ·rw [Qah hb] at e
   exact (I.hok b u e).stay (fun _ _ _ q => q) (fun c q => by rw [Qah (nx _ _ q)]; exact q) fun c xs q => by rw [Qah (nx _ _ q)]; exact q
end
structure ExIn (X : Cx) (pins : Q3) (H : Hp) (s : Shared) (x : Addr) (C : Value) (dx : Option Addr) : Prop where
 own : FpOk X pins H x
 tr : Rec s.heap x C dx .none ∨ ∃ T fl, Rec s.heap x C dx (.ref T) ∧ T ≠ x ∧ Tra s.heap T fl ∧ FpOk X pins H T
def XeIs (X : Cx) (R : St → Prop) (Ek : XK) : Prop :=
 ∀ (pins : Q3) (σ : St) (H : Hp) (s : Shared) (x : Addr) (C : Value) (dx : Option Addr), Inv X pins σ H s → R σ → ExIn X pins H s x C dx → Ek C dx H → X.xe (.ref x) s
def CX1 (P : Program) (w : World) : CXT := fun outer H s E e s' =>
 ∃ (x : Addr) (C : Value) (dx : Option Addr) (T : Addr) (H' : Hp), e = .ref x ∧ s'.os = s.os ∧ AllBare s'.gens ∧ Un (frs outer) [] H H' s.heap s'.heap ∧ HOk P w H' s'.heap ∧ (s.heap.objs.size ≤ x ∧ H' x = none) ∧ (s.heap.objs.size ≤ T ∧ H' T = none) ∧ T ≠ x ∧
   Rec s'.heap x C dx (.ref T) ∧ Tra s'.heap T .none ∧ E C dx H'
section
variable {X : Cx}
theorem pass1 {R : St → Prop} {E : XK} (hx : XeIs X R E) {pins : Q3} {σ : St} {H : Hp} {s : Shared} {e : Value} {s' : Shared} (I : Inv X pins σ H s) (r : R σ) (h : CX1 X.prog X.w X.stack H s E e s') : X.xe e s' := by
 obtain ⟨x, C, dx, T, H', rfl, os, bare, un, hok, ⟨x1, x2⟩, ⟨t1, t2⟩, ne, rc, tr, q⟩ := h
 have I' : Inv X pins σ H' s' := I.call' os un hok bare (ch := []) (fun _ z => nomatch z)
 exact hx pins σ H' s' x C dx I' r ⟨I.fpOk x1 x2, .inr ⟨T, _, rc, ne, tr, I.fpOk t1 t2⟩⟩ q
end
theorem Qcs {P : Program} {w : World} {K : Q4} {mg : Str → Option Value} {base : Heap} {cm : Bool} {N : List Str} {qual : Str} {scope : Scope} {f : Addr} {cd : Value} {A : Around} {outer : List Env} {s : Shared} {H : Hp} {E : XK} :
 XeIs (cxOf (CX1 P w) cm P w K mg base N qual scope f cd A outer s H E) (fun _ => True) E := by
 intro pins σ H1 s1 x C dx I _ ex e
 show wpAny (model P w) (A.deeper (envOfC qual scope s.heap.objs.size f cd)) (leaving (envOfC qual scope s.heap.objs.size f cd) (.ref x)) (fun _ s2 => CX1 P w outer H s E (.ref x) s2) (fun e' s2 => CX1 P w outer H s E e' s2) s1
 have fin : ∀ (T : Addr) (h2 : Heap), Inv (cxOf (CX1 P w) cm P w K mg base N qual scope f cd A outer s H E) pins σ H1 { s1 with heap := h2 } → s.heap.objs.size ≤ T → H1 T = none → T ≠ x → Rec h2 x C dx (.ref T) → Tra h2 T .none → CX1 P w outer H s E (.ref x) { s1 with heap := h2 } := by
  intro T h2 J t1 t2 ne r t
  obtain ⟨f0, _, _, f3, _⟩ := ex.own
  have x1 : s.heap.objs.size ≤ x := f3.elim (fun z => absurd (show x ∈ ([] : List Addr) from z) (by simp)) id
  exact ⟨x, C, dx, T, H1, rfl, J.os, J.bare, J.base, J.hok, ⟨x1, f0⟩, ⟨t1, t2⟩, ne, r, t, e⟩
 unfold leaving
 rcases ex.tr with r | ⟨T0, fl0, r, ne0, t0, f0⟩
 ·refine wpAny_bind (Qep I.ok.frames I.stack rfl r fun h' T a sz r' t' => ?_)
  have xT : T ≠ x := by
   obtain ⟨oe, _, he, _⟩ := r
   exact fun z => absurd (Nat.lt_of_lt_of_le (Heap.lt_size he) (z ▸ sz)) (Nat.lt_irrefl _)
  have hT := I.hok.fresh sz
  have I1 := aft I a (by intro b hb; have : b = x := by simpa using hb
                         subst this; exact ex.own)
  refine Qbl r' xT t' fun h2 a2 r2 t2 => ?_
  have I2 := aft (h' := h2) I1 (a2.mono (by simp) fun _ z => z) (by intro b hb; have : b = T := by simpa using hb
                                                                    subst this; exact I.fpOk sz hT)
  exact fin T h2 I2 (Nat.le_trans I.sz sz) hT xT r2 t2
 ·refine wpAny_bind (Qeq I.ok.frames I.stack rfl r ne0 t0 fun h' T fl' a sz r' t' => ?_)
  have xT : T ≠ x := by
   obtain ⟨oe, _, he, _⟩ := r
   rcases sz with z0 | z0
   ·rw [z0]; exact ne0
   ·exact fun z => absurd (Nat.lt_of_lt_of_le (Heap.lt_size he) (z ▸ z0)) (Nat.lt_irrefl _)
  have fT : FpOk (cxOf (CX1 P w) cm P w K mg base N qual scope f cd A outer s H E) pins H1 T := by
   rcases sz with z0 | z0
   ·rw [z0]; exact f0
   ·exact I.fpOk z0 (I.hok.fresh z0)
  have I1 := aft I a (by intro b hb
                         rcases (show b = x ∨ b = T0 by simpa using hb) with z | z
                         ·subst z; exact ex.own
                         ·subst z; exact f0)
  refine Qbl r' xT t' fun h2 a2 r2 t2 => ?_
  have I2 := aft (h' := h2) I1 (a2.mono (by simp) fun _ z => z) (by intro b hb; have : b = T := by simpa using hb
                                                                    subst this; exact fT)
  obtain ⟨g0, _, _, g3, _⟩ := fT
  exact fin T h2 I2 (g3.elim (fun z => absurd (show T ∈ ([] : List Addr) from z) (by simp)) id) g0 xT r2 t2
end L2
namespace L2
open PySem PySem.Spec PyProof.Rows L3
section
variable {X : Cx} {x : Str} {C : Addr} {np cpos pos : Pos} {e : Expr} {es : List Expr} {ta : TA} {R : St → Prop} {Ek : XK}
end
def tCallR (R : St → Prop) (sp : Sp) (dvs : List V) (E : XK) (t : TA) : TE := fun σ H Q => t σ H fun vs H1 => R σ ∧ sp (vs ++ dvs) H1 Q E
section
variable {X : Cx} {cm : Bool} {k : Nat} {f C : Addr} {fd : FuncData} {ps : List Str} {sp : Sp} {dvs : List V} {ds : List Value} {E : XK} {R : St → Prop} {x m : Str} {p pos apos : Pos} {e o : Expr} {es : List Expr} {ta : TE} {t : TA}
theorem Qmi {pins : Q3} {σ : St} {H : Hp} {s : Shared} {Q : VK} {us : List Value} {vs : List V} (F : FnOk X.prog X.w X.K X.mg X.base (CX1 X.prog X.w) cm k f fd ps sp) (hr : Room cm k X.A) (hb : Binds X.K fd ps ds) (hd : Vals dvs ds) (hx : XeIs X R E)
 (I : Inv X pins σ H s) (r : Vals vs us) (hR : R σ) (h : sp (vs ++ dvs) H Q E) : wpAny (model X.prog X.w) X.A (call (.ref f) us) (EP X pins σ Q) X.xe s := by
 have r2 : Vals (vs ++ dvs) (us ++ ds) := r.append hd
 have hl : (us ++ ds).length = ps.length := by rw [← r2.length]; exact F.len _ _ _ _ h
 refine wpAny_call (codeAny_mono (F.run X.A X.stack s H ⟨us, []⟩ (us ++ ds) (vs ++ dvs) Q E hr I.env0 (hb s us I.kIn hl) r2 h) fun r s' hq => ?_)
 cases r with
 | error e => exact pass1 hx I hR hq
 | ok fl =>
   cases fl with
   | ret u => exact I.after hq
   | next => exact False.elim hq
   | brk => exact False.elim hq
   | cont => exact False.elim hq
theorem Qbu (F : FnOk X.prog X.w X.K X.mg X.base (CX1 X.prog X.w) cm k f fd ps sp) (hr : Room cm k X.A) (hg : Gl X x) (hm : X.mg x = some (.ref f)) (hk : keepIn X.K (.ref f) = true) (hb : Binds X.K fd ps ds) (hd : Vals dvs ds) (hx : XeIs X R E)
 (ha : PA X (e :: es) t) (hdb : (x == ("__debug__" : Str)) = false := by decide) (he : starEach (e :: es) X.env = (false, eval e X.env) :: starEach es X.env := by rfl) (hpl : (backTo pos (starEach es X.env)).any (·.1) = false := by rfl) :
 PE X (.Call (.Name x p) (e :: es) [] pos) (tCallR R sp dvs E t) := by
 intro pins s σ H Q I h
 refine wpAny_Call_Name_kw (Qc2 I hg hm ?_ hdb)
 refine PySem.W.callWith_K (h₀ := X.base) I.ok.mod.kin hk (thn (ha pos pins s σ H _ I h) fun us s1 ⟨vs, H1, I1, r, hR, q⟩ => ⟨I1.kIn, ?_⟩) he hpl
 exact Qmi F hr hb hd hx I1 r hR q
end
structure FunD (K : Q4) (x qual : Str) (st : Stmt) (f : Addr) (fd : FuncData) (dV : Value) : Prop where
 ex : ∃ (oc : Value) (od : Option Addr) (kV doc pm : Value) (an : Option Addr) (cdv ct : Value) (osl : Array Q5),
  fd = fnOf x qual (defArgs st) (defBody st) (defScope st) dV kV doc pm an cdv ct ∧ K.lookup f = some ⟨oc, od, .func fd, osl⟩ ∧ codeIn K cdv qual = true
 kp : keepIn K (.ref f) = true
section
variable {P : Program} {w : World} {K : Q4} {mg : Str → Option Value} {base : Heap} {cm : Bool}
theorem FunD.okX {x qual : Str} {st : Stmt} {f : Addr} {fd : FuncData} {dV : Value} {N ps : List Str} {k : Nat} {sp : Sp} (F : FunD K x qual st f fd dV) (S : FnScope N ps (defScope st)) (len : ∀ vs H Q E, sp vs H Q E → vs.length = ps.length)
 (hbody : ∀ (cdv : Value) (A : Around) (outer : List Env) (s : Shared) (H : Hp) (vs : List V) (Q : VK) (E : XK), Room cm k (A.deeper (envOfC qual (defScope st) s.heap.objs.size f cdv)) → sp vs H Q E →
  ∃ t, PSs (cxOf (CX1 P w) cm P w K mg base N qual (defScope st) f cdv A outer s H E) (defBody st) t ∧ t { nx := fun _ H' => Q .non H', rt := Q } (start N vs) H) : FnOk P w K mg base (CX1 P w) cm (k + 1) f fd ps sp := by
 obtain ⟨oc, od, kV, doc, pm, an, cdv, ct, osl, rfl, lk, hcd⟩ := F.ex
 exact fn_of lk hcd S len fun A outer s H vs Q E hr hsp => hbody cdv A outer s H vs Q E hr hsp
theorem FunD.ok {x qual : Str} {st : Stmt} {f : Addr} {fd : FuncData} {dV : Value} {N ps : List Str} {k : Nat} {sp : Sp} (F : FunD K x qual st f fd dV) (S : FnScope N ps (defScope st)) (len : ∀ vs H Q E, sp vs H Q E → vs.length = ps.length)
 (hbody : ∀ (cdv : Value) (A : Around) (outer : List Env) (s : Shared) (H : Hp) (vs : List V) (Q : VK) (E : XK), Room cm k (A.deeper (envOfC qual (defScope st) s.heap.objs.size f cdv)) → sp vs H Q E →
  ∃ t, PSs (cxOf CX0 cm P w K mg base N qual (defScope st) f cdv A outer s H E).nox (defBody st) t ∧ t { nx := fun _ H' => Q .non H', rt := Q } (start N vs) H) : FnOk P w K mg base CX0 cm (k + 1) f fd ps sp := by
 obtain ⟨oc, od, kV, doc, pm, an, cdv, ct, osl, rfl, lk, hcd⟩ := F.ex
 refine fn_of lk hcd S len fun A outer s H vs Q E hr hsp => ?_
 obtain ⟨t, h, q⟩ := hbody cdv A outer s H vs Q E hr hsp
 exact ⟨t, h.nox, q⟩
theorem FunD.binds {x qual : Str} {st : Stmt} {f : Addr} {fd : FuncData} {dV : Value} {ps : List Str} (F : FunD K x qual st f fd dV)
 (h : ∀ (kV doc pm : Value) (an : Option Addr) (cdv ct : Value) (us : List Value), us.length = ps.length → bindArgs (fnOf x qual (defArgs st) (defBody st) (defScope st) dV kV doc pm an cdv ct) ⟨us, []⟩ = pure (ps.zip us)) : Binds K fd ps [] := by
 obtain ⟨oc, od, kV, doc, pm, an, cdv, ct, osl, rfl, lk, hcd⟩ := F.ex
 exact .all (h kV doc pm an cdv ct)
theorem FunD.b1 {x qual : Str} {st : Stmt} {f : Addr} {fd : FuncData} {dV : Value} {ps : List Str} (F : FunD K x qual st f fd dV) (h : ∀ (kV doc pm : Value) (an : Option Addr) (cdv ct : Value) (us : List Value), us.length = ps.length → bindArgs (PySem.W.fnOf x qual (defArgs st) (defBody st) (defScope st) dV kV doc pm an cdv ct) ⟨us, []⟩ = pure (ps.zip us) := by exact fun _ _ _ _ _ _ us hl => match us, hl with | [_], _ => rfl) : Binds K fd ps [] := F.binds h
theorem FunD.b2 {x qual : Str} {st : Stmt} {f : Addr} {fd : FuncData} {dV : Value} {ps : List Str} (F : FunD K x qual st f fd dV) (h : ∀ (kV doc pm : Value) (an : Option Addr) (cdv ct : Value) (us : List Value), us.length = ps.length → bindArgs (PySem.W.fnOf x qual (defArgs st) (defBody st) (defScope st) dV kV doc pm an cdv ct) ⟨us, []⟩ = pure (ps.zip us) := by exact fun _ _ _ _ _ _ us hl => match us, hl with | [_, _], _ => rfl) : Binds K fd ps [] := F.binds h
theorem FunD.b3 {x qual : Str} {st : Stmt} {f : Addr} {fd : FuncData} {dV : Value} {ps : List Str} (F : FunD K x qual st f fd dV) (h : ∀ (kV doc pm : Value) (an : Option Addr) (cdv ct : Value) (us : List Value), us.length = ps.length → bindArgs (PySem.W.fnOf x qual (defArgs st) (defBody st) (defScope st) dV kV doc pm an cdv ct) ⟨us, []⟩ = pure (ps.zip us) := by exact fun _ _ _ _ _ _ us hl => match us, hl with | [_, _, _], _ => rfl) : Binds K fd ps [] := F.binds h
theorem FunD.b4 {x qual : Str} {st : Stmt} {f : Addr} {fd : FuncData} {dV : Value} {ps : List Str} (F : FunD K x qual st f fd dV) (h : ∀ (kV doc pm : Value) (an : Option Addr) (cdv ct : Value) (us : List Value), us.length = ps.length → bindArgs (PySem.W.fnOf x qual (defArgs st) (defBody st) (defScope st) dV kV doc pm an cdv ct) ⟨us, []⟩ = pure (ps.zip us) := by exact fun _ _ _ _ _ _ us hl => match us, hl with | [_, _, _, _], _ => rfl) : Binds K fd ps [] := F.binds h
theorem FunD.b5 {x qual : Str} {st : Stmt} {f : Addr} {fd : FuncData} {dV : Value} {ps : List Str} (F : FunD K x qual st f fd dV) (h : ∀ (kV doc pm : Value) (an : Option Addr) (cdv ct : Value) (us : List Value), us.length = ps.length → bindArgs (PySem.W.fnOf x qual (defArgs st) (defBody st) (defScope st) dV kV doc pm an cdv ct) ⟨us, []⟩ = pure (ps.zip us) := by exact fun _ _ _ _ _ _ us hl => match us, hl with | [_, _, _, _, _], _ => rfl) : Binds K fd ps [] := F.binds h
theorem Qap {x qual : Str} {st : Stmt} {f : Addr} {oc dV : Value} {od an : Option Addr} {osl : Array Q5} {kV doc pm cdv ct : Value} (l : K.lookup f = some ⟨oc, od, .func (fnOf x qual (defArgs st) (defBody st) (defScope st) dV kV doc pm an cdv ct), osl⟩)
 (c : codeIn K cdv qual = true) (k : keepIn K (.ref f) = true) : FunD K x qual st f (fnOf x qual (defArgs st) (defBody st) (defScope st) dV kV doc pm an cdv ct) dV := ⟨⟨oc, od, kV, doc, pm, an, cdv, ct, osl, rfl, l, c⟩, k⟩
end
end L2
namespace L2
open PySem PySem.Spec PyProof.Rows L3
abbrev into (X : Cx) (pn : Q3) (E : Q0) : Cx := { X with pn := pn, xe := E }
abbrev sup (X : Cx) (x : Addr) : Cx := { X with A := X.A.mark (some (.ref x)), calm := false, xe := fun _ _ => False }
def excO (x : Addr) (C : Value) (dx : Option Addr) : HO := .ext fun h => ∃ o vs, h.get? x = some o ∧ o.cls = C ∧ o.dict = dx ∧ o.data = .fields vs ∧ vs[2]? = some .none
theorem Qji {P : Program} {w : World} {H : Hp} {h : Heap} {x : Addr} {C : Value} {dx : Option Addr} {tb : Value} (r : Rec h x C dx tb) : ObjOk P w H h x (excO x C dx) := by
 obtain ⟨oe, vs, he, hc, hd, hf, _, hcx⟩ := r
 refine ⟨⟨oe, vs, he, hc, hd, hf, hcx⟩, ⟨oe, he⟩, fun h1 h2 z k => ?_⟩
 obtain ⟨o, vs, e, q⟩ := z
 exact ⟨o, vs, k o e, q⟩
theorem Qg7 {P : Program} {w : World} {H : Hp} {h : Heap} {x : Addr} {C : Value} {dx : Option Addr} (hok : HOk P w H h) (e : H x = some (excO x C dx)) : ∃ o vs, h.get? x = some o ∧ o.cls = C ∧ o.dict = dx ∧ o.data = .fields vs ∧ vs[2]? = some .none := by
 obtain ⟨q, _⟩ := (show ObjOk P w H h x (excO x C dx) from hok x _ e)
 exact q
section
variable {X : Cx} {pins pins' : Q3} {σ : St} {H : Hp} {s : Shared} {E : Q0} {D : Ends}
theorem Qmq (ok : X.Ok) (pn : Q3) (E : Q0) : (into X pn E).Ok :=
 ⟨ok.mod, ok.kind, ok.glob, ok.blt, ok.above, ok.inj, ok.has, ok.cab, ok.hd, ok.frames, ok.stk, ok.exf, ok.bs, ok.bsz, ok.noex, ok.exfs, ok.funs, ok.frf⟩
theorem Qkl {pn : Q3} (ok : (into X pn E).Ok) : X.Ok :=
 ⟨ok.mod, ok.kind, ok.glob, ok.blt, ok.above, ok.inj, ok.has, ok.cab, ok.hd, ok.frames, ok.stk, ok.exf, ok.bs, ok.bsz, ok.noex, ok.exfs, ok.funs, ok.frf⟩
theorem Qg3 (I : Inv X pins σ H s) (E : Q0) : Inv (into X (X.pn ++ pins) E) [] σ H s :=
 ⟨Qmq I.ok _ E, I.os, I.bare, I.base, I.loc, I.cell, I.free, I.freeC, fun p hp => I.pin p (by simpa using hp), I.hok, I.len⟩
theorem Qcg (I : Inv (into X (X.pn ++ pins) E) pins' σ H s) : Inv X pins σ H s :=
 ⟨Qkl I.ok, I.os, I.bare, I.base, I.loc, I.cell, I.free, I.freeC, fun p hp => I.pin p (List.mem_append_left _ hp), I.hok, I.len⟩
theorem ok_sup (ok : X.Ok) (x : Addr) : (sup X x).Ok :=
 ⟨ok.mod, ok.kind, ok.glob, ok.blt, ok.above, ok.inj, ok.has, ok.cab, fun z => (by cases z), ok.frames, ok.stk, ok.exf, ok.bs, ok.bsz, ok.noex, ok.exfs, ok.funs, ok.frf⟩
theorem Qd1 (I : Inv X pins σ H s) (x : Addr) : Inv (sup X x) pins σ H s := ⟨ok_sup I.ok x, I.os, I.bare, I.base, I.loc, I.cell, I.free, I.freeC, I.pin, I.hok, I.len⟩
theorem Qb6 {x : Addr} (ok : X.Ok) (I : Inv (sup X x) pins σ H s) : Inv X pins σ H s := ⟨ok, I.os, I.bare, I.base, I.loc, I.cell, I.free, I.freeC, I.pin, I.hok, I.len⟩
theorem Qgk {f : Flow} {s' : Shared} (h : SP (into X (X.pn ++ pins) E) [] D f s') : SP X pins D f s' := by
 cases f with
 | next => obtain ⟨σ', H', I, q⟩ := h; exact ⟨σ', H', Qcg I, q⟩
 | brk => obtain ⟨σ', H', I, q⟩ := h; exact ⟨σ', H', Qcg I, q⟩
 | cont => obtain ⟨σ', H', I, q⟩ := h; exact ⟨σ', H', Qcg I, q⟩
 | ret u => obtain ⟨v, σ', H', I, r, q⟩ := h; exact ⟨v, σ', H', Qcg I, r, q⟩
theorem Qcr {b : Addr} (f : FpOk (into X (X.pn ++ pins) E) pins' H b) : FpOk X pins H b := by
 obtain ⟨f0, f1, f2, f3, f4, f5⟩ := f
 exact ⟨f0, f1, f2, f3, f4, fun p hp => f5 p (List.mem_append_left _ hp)⟩
theorem Qb3 {M : Model} {A : Around} {i : Nat} {n : Str} {pos : Pos} {Q : Unit → Shared → Prop} (I : Inv X pins σ H s) (hN : X.N.Nodup) (hi : X.N[i]? = some n) (hl : X.env.scope.names.lookup n = some .local)
 (h : ∀ s', Inv X pins (σ.set i none) H s' → Q () s') : wpAny M A (do bindName X.env n .none; unbindBehindTheSuite X.env n pos) Q E s := by
 obtain ⟨m, hn, hlk⟩ := id I.loc
 have hcls : (X.env.scope.kind == .class || (X.env.scope.kind == .module && X.env.locals != X.env.globals)) = false := by rw [I.ok.kind]; rfl
 obtain ⟨oL, _, _, hoL, _⟩ := id hn
 have lt : ∀ b o, X.s₀.heap.get? b = some o → b ≠ X.env.locals := fun b o e => Nat.ne_of_lt (Nat.lt_of_lt_of_le (Heap.lt_size e) I.ok.above)
 refine wpAny_nameGoes_keeps hl hn hcls fun h' v hn' hs => h _ ⟨I.ok, I.os, I.bare, ⟨fun b o e n hb hx => ?_, fun b o e n hb hx => ?_, I.base.free, fun b o e hx => ?_, I.base.tups, I.base.frzs, I.base.tbls⟩, ⟨_, hn', fun j y v' e1 e2 e3 => ?_⟩, fun y c e => ?_, I.free, I.freeC, fun p hp => ?_, fun b u e => ?_, by simpa using I.len⟩
 ·exact (hs.2 b (lt b o e)).trans (I.base.keep b o e n hb hx)
 ·obtain ⟨sl, e1⟩ := I.base.slot b o e n hb hx
  exact ⟨sl, (hs.2 b (lt b o e)).trans e1⟩
 ·obtain ⟨o', e1⟩ := I.base.there b o e hx
  exact ⟨o', (hs.2 b (lt b o e)).trans e1⟩
 ·by_cases hj : j = i
  ·subst hj
   have hiσ : j < σ.length := by rw [I.len]; exact (List.getElem?_eq_some_iff.mp hi).1
   rw [List.getElem?_set_self hiσ] at e2
   cases e2
  ·rw [List.getElem?_set_ne (Ne.symm hj)] at e2
   obtain ⟨u', r', q⟩ := hlk j y v' e1 e2 e3
   refine ⟨u', r', ?_⟩
   rcases q with ⟨k, e⟩ | ⟨k, c, e, z⟩
   ·refine .inl ⟨k, ?_⟩
    have : y ≠ n := fun e => hj (Qer hN e1 (e ▸ hi))
    simp [this, e]
   ·exact .inr ⟨k, c, e, z.sameBut hs (I.cne y c e)⟩
 ·obtain ⟨w', z⟩ := I.cell y c e
  exact ⟨w', z.sameBut hs (I.cne y c e)⟩
 ·obtain ⟨e, n, ne, nf, d⟩ := I.pin p hp
  exact ⟨(hs.2 p.1 ne).trans e, n, ne, nf, d⟩
 ·refine (I.hok b u e).stay (fun c w' hc q => (hs.2 c ?_).trans q) (fun _ q => q) fun _ _ q => q
  rintro rfl
  rcases hc with rfl | hc
  ·rw [I.free] at e; cases e
  ·rw [I.free] at hc; cases hc
end
def tTry (K : Q4) (CB : Addr) (i : Nat) (tb : (St → Prop) → XK → TS) (ts : TS) : TS := fun D σ H =>
 tb (fun σ' => σ' = σ) (fun C dx H' => exmOne K C (.ref CB) = some true ∧ ∀ x, H' x = none →
  ts { nx := fun σ2 H2 => D.nx (σ2.set i none) H2, rt := D.rt, bk := fun σ2 H2 => D.bk (σ2.set i none) H2, ct := fun σ2 H2 => D.ct (σ2.set i none) H2 } (σ.set i (some (.ref x))) (upd H' x (excO x C dx))) D σ H
section
variable {X : Cx}
theorem ps_try {body suite : List Stmt} {b0 : Stmt} {y n : Str} {np hpos pos : Pos} {CB : Addr} {i : Nat} {tb : (St → Prop) → XK → TS} {ts : TS} (hN : X.N.Nodup) (hi : X.N[i]? = some n) (hl : X.env.scope.names.lookup n = some .local)
 (hst : X.stack = X.env :: X.outer) (hfr : X.env.frame = some X.env.locals) (hg : Gl X y) (hm : X.mg y = some (.ref CB))
 (hb : ∀ (pn : Q3) (E : Q0) (R : St → Prop) (Ek : XK), PassesOwn (model X.prog X.w) X.A X.env E → XeIs (into X pn E) R Ek → PSs (into X pn E) body (tb R Ek)) (hs : ∀ x, PSs (sup X x) (b0 :: suite) ts)
 (hdb : (y == ("__debug__" : Str)) = false := by decide) : PS X (.Try body [.ExceptHandler (some (.Name y np)) (some n) (b0 :: suite) hpos] [] [] pos) (tTry X.K CB i tb ts) := by
 intro pins s σ H D I h
 refine wpAny_Try_except ?_
 have hxe : XeIs (into X (X.pn ++ pins) (fun e s1 => wpAny (model X.prog X.w) X.A (noteFrame e X.env) (fun _ s2 => wpAny (model X.prog X.w) X.A (setFlight e none)
  (fun _ s3 => wpAny (model X.prog X.w) X.A (handleBy e X.env [.ExceptHandler (some (.Name y np)) (some n) (b0 :: suite) hpos]) (SP X pins D) X.xe s3) X.xe s2) X.xe s1)) (fun σ' => σ' = σ)
  (fun C dx H' => exmOne X.K C (.ref CB) = some true ∧ ∀ x, H' x = none →
   ts { nx := fun σ2 H2 => D.nx (σ2.set i none) H2, rt := D.rt, bk := fun σ2 H2 => D.bk (σ2.set i none) H2, ct := fun σ2 H2 => D.ct (σ2.set i none) H2 } (σ.set i (some (.ref x))) (upd H' x (excO x C dx))) := by
  rintro pins' σ' H' s' x C dx I' rfl ex ⟨hmt, hsu⟩
  have I1 : Inv X pins σ' H' s' := Qcg I'
  have own : FpOk X pins H' x := Qcr ex.own
  have fin : ∀ (T : Addr) (s3 : Shared), Inv X pins σ' H' s3 → FpOk X pins H' T → T ≠ x → Rec s3.heap x C dx (.ref T) → Tra s3.heap T .none →
   wpAny (model X.prog X.w) X.A (handleBy (.ref x) X.env [.ExceptHandler (some (.Name y np)) (some n) (b0 :: suite) hpos]) (SP X pins D) X.xe s3 := by
   intro T s3 I3 fT ne r3 t3
   have LT : PySem.W.Looks (model X.prog X.w) s3.heap (typeOf (.ref x)) C := by
    obtain ⟨oe, vs, he, hc, _⟩ := id r3
    exact hc ▸ (PySem.W.Looks.ld he).andThen .now
   refine wpAny_handleBy_cons (codeAny_handlers_test (Qc2 (X := sup X x) (Qd1 I3 x) hg hm ((PySem.W.exm_one I3.kIn LT hmt).here ?_) hdb)) (by intro z; cases z)
   show codeAny _ _ (.handlers (.ref x) [.ExceptHandler none (some n) (b0 :: suite) hpos] X.env) _ s3
   refine codeAny_handlers_suite_as (Qbl r3 ne t3 fun h4 a4 r4 t4 => ?_)
   have I4 : Inv X pins σ' H' { s3 with heap := h4 } := aft I3 (a4.mono (by simp) fun _ z => z) (by intro b hb; have : b = T := by simpa using hb
                                                                                                    subst this; exact fT)
   have I5 := track (o := excO x C dx) I4 own (Qji r4)
   refine Qdm (X := sup X x) (Qd1 I5 x) hN hi (.inl hl) (v := .ref x) rfl (fun s6 I6 => ?_) (.inr hl)
   refine wpAny_mono (hs x pins s6 _ _ _ I6 (hsu x own.1)) (fun f s7 q => ?_) fun _ _ z => z.elim
   cases f with
   | next => obtain ⟨σ7, H7, I7, q7⟩ := q; exact Qb3 (Qb6 I.ok I7) hN hi hl fun s8 I8 => ⟨_, _, I8, q7⟩
   | brk => obtain ⟨σ7, H7, I7, q7⟩ := q; exact Qb3 (Qb6 I.ok I7) hN hi hl fun s8 I8 => ⟨_, _, I8, q7⟩
   | cont => obtain ⟨σ7, H7, I7, q7⟩ := q; exact Qb3 (Qb6 I.ok I7) hN hi hl fun s8 I8 => ⟨_, _, I8, q7⟩
   | ret u => obtain ⟨v7, σ7, H7, I7, r7, q7⟩ := q; exact Qb3 (Qb6 I.ok I7) hN hi hl fun s8 I8 => ⟨v7, _, _, I8, r7, q7⟩
  have fr : X.A.frames = some (X.env :: X.outer) := by rw [I1.ok.frames, hst]
  have stk : s'.heap.FunFrames X.base (X.env :: X.outer) := by rw [← hst]; exact I1.stack
  have big : ∀ {T : Addr}, s'.heap.objs.size ≤ T → (∃ tb, Rec s'.heap x C dx tb) → T ≠ x := fun sz ⟨_, oe, _, he, _⟩ z => absurd (Nat.lt_of_lt_of_le (Heap.lt_size he) (z ▸ sz)) (Nat.lt_irrefl _)
  rcases ex.tr with r | ⟨T0, fl0, r, ne0, t0, f0⟩
  ·refine Qep fr stk hfr r fun h' T a sz r' t' => ?_
   have J1 := aft I1 (by rw [hst]; exact a) (by intro b hb; have : b = x := by simpa using hb
                                                subst this; exact own)
   have ne := big sz ⟨_, r⟩
   have fT := I1.fpOk (H' := H') sz (I1.hok.fresh sz)
   refine Qbl r' ne t' fun h2 a2 r2 t2 => ?_
   exact fin T _ (aft (h' := h2) J1 (a2.mono (by simp) fun _ z => z) (by intro b hb; have : b = T := by simpa using hb
                                                                         subst this; exact fT)) fT ne r2 t2
  ·refine Qeq fr stk hfr r ne0 t0 fun h' T fl' a sz r' t' => ?_
   have J1 := aft I1 (by rw [hst]; exact a) (by intro b hb
                                                rcases (show b = x ∨ b = T0 by simpa using hb) with z | z
                                                ·subst z; exact own
                                                ·subst z; exact Qcr f0)
   have ne : T ≠ x := by
    rcases sz with z0 | z0
    ·rw [z0]; exact ne0
    ·exact big z0 ⟨_, r⟩
   have fT : FpOk X pins H' T := by
    rcases sz with z0 | z0
    ·rw [z0]; exact Qcr f0
    ·exact I1.fpOk (H' := H') z0 (I1.hok.fresh z0)
   refine Qbl r' ne t' fun h2 a2 r2 t2 => ?_
   exact fin T _ (aft (h' := h2) J1 (a2.mono (by simp) fun _ z => z) (by intro b hb; have : b = T := by simpa using hb
                                                                         subst this; exact fT)) fT ne r2 t2
 refine wpAny_mono (hb (X.pn ++ pins) _ _ _ PassesOwn.looking hxe [] s σ H D (Qg3 I _) h) (fun f s1 q => ?_) fun _ _ z => z
 have q' := Qgk q
 cases f with
 | next => exact wpAny_execs_nil q'
 | brk => exact q'
 | cont => exact q'
 | ret u => exact q'
end
end L2
namespace L2
open PySem PySem.Spec PyProof.Rows L3
theorem Qks {K : Q4} {x C : Addr} (T : XCls K C) : PySem.W.KitX K (.ref x) (.ref C) (fun h => ∃ o, h.get? x = some o ∧ o.cls = .ref C) where
 ty := fun M h _ p => by
  obtain ⟨o, e, c⟩ := p
  exact c ▸ (PySem.W.Looks.ld e).andThen .now
 it := fun M h X _ => by
  obtain ⟨⟨nm, q, N, bs, sn, sub, ab, col, dd, k0, k1, k2, k3, k5, cC⟩, _⟩ := T.xc X
  intro A Q E s k z
  unfold isType loadHead
  exact wpAny_bind (wpAny_loadPart (k _ _ cC) (wpAny_pure z))
 ne := fun h tp dd its n sl X htp => by
  obtain ⟨⟨nm, q, N, bs, sn, sub, ab, col, dd', k0, k1, k2, k3, k5, cC⟩, _⟩ := T.xc X
  refine Bool.eq_false_iff.mpr fun z => ?_
  have e : C = tp := Value.ref.inj (beq_iff_eq.mp z)
  subst e
  rw [cC] at htp
  have z2 := congrArg Obj.data (Option.some.inj htp)
  cases z2
 ca := fun {P w A E Q s} X p k => by
  obtain ⟨o, e, c⟩ := p
  obtain ⟨h, g, d, t, os⟩ := s
  exact Qk3 PySem.F.excAttr_ValueError (T.xc X) (Qcj X T.ga) (Qcj X T.gh) (Qcj X T.cl) e c k
inductive TyX (K : Q4) (H : Hp) : V → Value → Prop where
 | of {x : V} {t : Value} (e : TyOf K H x t) : TyX K H x t
 | exc {a C : Addr} {dx : Option Addr} (e : H a = some (excO a (.ref C) dx)) (T : XCls K C) : TyX K H (.ref a) (.ref C)
def clsV : V → Option Value
 | .ty n => some (.type n)
 | .ref a => some (.ref a)
 | _ => none
theorem Qnn {c : V} {u t : Value} (e : clsV c = some u) (r : RelV c t) : t = u := by
 cases c with
 | ty n => cases e; exact r
 | ref a => cases e; exact r
 | _ => cases e
def rIs (K : Q4) : List V → Hp → VK → Prop := fun xs H Q => ∃ x c t u b, xs = [x, c] ∧ TyX K H x t ∧ clsV c = some u ∧ kitOne K t u = some b ∧ Q (.bl b) H
section
variable {X : Cx}
theorem Qnq : CallR X (.builtin "isinstance") (rIs X.K) := by
 intro pins s σ H xs us Q I r h
 obtain ⟨x, c, t, u, b, rfl, ty, hc, e, q⟩ := h
 cases r with
 | cons r1 r2 =>
   cases r2 with
   | cons r2 r3 =>
     cases r3
     rename_i v1 v2
     rw [Qnn hc r2]
     cases ty with
     | of ty => exact Qi5 I r1 ty e fun tk => ⟨.bl b, H, I.tok _, rfl, q⟩
     | @exc a C dx ea T =>
       cases (show v1 = Value.ref a from r1)
       obtain ⟨o, vs, e1, e2, _⟩ := Qg7 I.hok ea
       exact PySem.W.kia_one (Qks T) I.kIn ⟨o, e1, e2⟩ e (fun z => nomatch z) fun tk => ⟨.bl b, H, I.tok _, rfl, q⟩
end
def tFldX (K : Q4) (ta : TE) (f : Str) : TE := fun σ H Q => ta σ H fun x H1 => ∃ a C dx fs v, x = .ref a ∧ H1 a = some (excO a (.ref C) (some dx)) ∧ H1 dx = some (.xd fs) ∧ XCls K C ∧ NoAttr K C f ∧ fs.lookup f = some v ∧ Q v H1
section
variable {X : Cx} {e : Expr} {f : Str} {pos : Pos} {ta : TE}
theorem Qmn (he : PE X e ta) (hb : attributeBase e f X.env (eval e X.env) = eval e X.env) : PE X (.Attribute e f pos) (tFldX X.K ta f) := by
 intro pins s σ H Q I h
 refine Qnv hb (thn (he pins s σ H _ I h) fun u s1 ⟨x, H1, I1, rx, a, C, dx, fs, v, ex, ea, ed, T, n, l, q⟩ => ?_)
 subst ex
 obtain rfl : u = Value.ref a := rx
 obtain ⟨o, vs, e1, e2, e3, e4, _⟩ := Qg7 I1.hok ea
 obtain ⟨mA, hn, rel⟩ := (show ObjOk X.prog X.w H1 s1.heap dx (.xd fs) from I1.hok dx _ ed)
 obtain ⟨w', hw, rw'⟩ := RelO.Qcv (v := v) (o := mA f) (by rw [← l]; exact rel f)
 obtain ⟨hp, g, d, t, os⟩ := s1
 exact Qky PySem.F.excAttr_ValueError (T.xc I1.kIn) (Qcj I1.kIn T.ga) (Qcj I1.kIn T.gh) (Qcj I1.kIn n) e1 e2 e4 e3 hn hw (PySem.W.handedOut_of (Qje rw')) ⟨v, H1, I1.tok _, rw', q⟩
end
end L2
namespace L2
open PySem PySem.Spec PyProof.Rows L3
def bareO (x : Addr) (C : Value) (dx : Option Addr) : HO := .ext fun h => ∃ t, h.get? x = some { cls := C, dict := dx, data := .fields #[.ref t, .none, .none, .none, .bool false, .none] }
theorem Qhc {P : Program} {w : World} {H : Hp} {h : Heap} {x t : Addr} {C : Value} {dx : Option Addr} (e : h.get? x = some { cls := C, dict := dx, data := .fields #[.ref t, .none, .none, .none, .bool false, .none] }) : ObjOk P w H h x (bareO x C dx) :=
 ⟨⟨t, e⟩, ⟨_, e⟩, fun h1 h2 ⟨t', z⟩ k => ⟨t', k _ z⟩⟩
theorem Qd7 {P : Program} {w : World} {H : Hp} {h : Heap} {x : Addr} {C : Value} {dx : Option Addr} (hok : HOk P w H h) (e : H x = some (bareO x C dx)) : ∃ t, h.get? x = some { cls := C, dict := dx, data := .fields #[.ref t, .none, .none, .none, .bool false, .none] } :=
 (show ObjOk P w H h x (bareO x C dx) from hok x _ e).1
theorem Qhq {fs : List (Str × V)} {mA : Str → Option Value} (rel : ∀ f, RelO (fs.lookup f) (mA f)) : PySem.Within mA (fs.map (·.1)) := fun g hg => by
 cases q : fs.lookup g with
 | none => exact absurd (RelO.Qmt (by rw [← q]; exact rel g)) hg
 | some v => exact List.mem_map.mpr ⟨(g, v), PySem.mem_of_lookup q, rfl⟩
theorem Qib {fs : List (Str × V)} {mA : Str → Option Value} {f : Str} {y : V} {u : Value} (rel : ∀ g, RelO (fs.lookup g) (mA g)) (ry : RelV y u) (g : Str) : RelO ((putF f y fs).lookup g) (if g = f then some u else mA g) := by
 rw [Qc1]
 by_cases q : g = f
 ·rw [if_pos q, if_pos q]; exact ry
 ·rw [if_neg q, if_neg q]; exact rel g
section
variable {X : Cx} {pins : Q3} {σ : St} {H : Hp} {s : Shared} {A : Around} {E : Q0} {a C : Addr} {f : Str} {y : V} {u : Value} {Q : Unit → Shared → Prop}
theorem Qj8 (I : Inv X pins σ H s) (ea : H a = some (bareO a (.ref C) none)) (T : XCls X.K C) (n : NoAttr X.K C f) (ry : RelV y u)
 (h : ∀ d s', H d = none → d ≠ a → Inv X pins σ (upd (upd H d (.xd (putF f y []))) a (bareO a (.ref C) (some d))) s' → Q () s') : wpAny (model X.prog X.w) A (setAttr (.ref a) f u) Q E s := by
 obtain ⟨t, e0⟩ := Qd7 I.hok ea
 obtain ⟨hp, g, dr, tk, os⟩ := s
 have KX := I.kIn
 refine Qgn (mA := fun _ => none) (ns := []) PySem.F.store_ValueError (T.xc KX) (T.pass KX) (Qcj KX T.sa) (Qcj KX n) ⟨_, e0, rfl, (fun c z => nomatch z), .inl ⟨rfl, fun _ => rfl⟩⟩ (fun g hg => absurd rfl hg) (Nat.zero_le _) fun h' tk' st => ?_
 obtain ⟨⟨o', i1, i2, i3, i4⟩, keep, same, newd⟩ := st
 obtain ⟨o1, s1, s2, s3, s4, _⟩ := same _ e0
 obtain ⟨o2, n1, n2⟩ := newd _ e0 rfl
 have q1 : o2 = o1 := Option.some.inj (n1.symm.trans s1)
 have q2 : o' = o1 := Option.some.inj (i1.symm.trans s1)
 rw [q1] at n2
 rw [q2] at i4
 have hne : hp.objs.size ≠ a := Nat.ne_of_gt (Heap.lt_size e0)
 have hd : H hp.objs.size = none := I.hok.fresh (Nat.le_refl _)
 rcases i4 with ⟨z, _⟩ | ⟨d', z, z2, ns⟩
 ·rw [n2] at z; cases z
 ·rw [n2] at z
  cases z
  have e1 : h'.get? a = some { cls := .ref C, dict := some hp.objs.size, data := .fields #[.ref t, .none, .none, .none, .bool false, .none] } := by
   rw [s1]
   obtain ⟨oc, od, odt, osl⟩ := o1
   dsimp only at s2 s3 s4 n2
   subst s2 s3 s4 n2
   rfl
  have kp : ∀ b o, b ≠ a → hp.get? b = some o → h'.get? b = some o := fun b o hb e => keep b o hb (fun o0 dx q1 q2 => by rw [e0] at q1; cases q1; cases q2) e
  refine h hp.objs.size _ hd hne (I.step (g' := g) (d' := dr) (t' := tk') (ch := []) (fun _ z => nomatch z) (fun b o _ _ _ e nb => kp b o (fun z => by rw [z, ea] at nb; cases nb) e) (fun b o _ _ _ e nb => ⟨o.slots, kp b o (fun z => by rw [z, ea] at nb; cases nb) e⟩)
   (fun b o _ e nb => ?_) (fun b o _ e => ?_) (fun b xs e => ?_) (fun b o v e => ?_) (fun b ps e => ?_) (fun m hm => ?_) (fun b v e => ?_) I.bare)
  ·rw [Qah (fun z => by rw [z, ea] at nb; cases nb), Qah (Nat.ne_of_lt (Heap.lt_size e))]
   exact nb
  ·by_cases hb : b = a
   ·exact ⟨_, hb ▸ e1⟩
   ·exact ⟨o, kp b o hb e⟩
  ·rw [Qah (fun z => by rw [z, ea] at e; cases e), Qah (Qai e hd)]
   exact e
  ·rw [Qah (fun z => by rw [z, ea] at e; cases e), Qah (Qai e hd)]
   exact e
  ·exact ⟨#[], by rw [Qah (fun z => by rw [z, ea] at e; cases e), Qah (Qai e hd), e]; simp⟩
  ·obtain ⟨o, es, ep, ho, r⟩ := hm
   exact ⟨o, es, ep, kp _ o (fun z => by have q := I.free; rw [z, ea] at q; cases q) ho, r⟩
  ·by_cases hb : b = a
   ·subst hb
    rw [Qab] at e
    cases e
    exact Qhc e1
   ·rw [Qah hb] at e
    by_cases hb2 : b = hp.objs.size
    ·subst hb2
     rw [Qab] at e
     cases e
     exact ⟨_, ns, fun g => Qib (fs := []) (mA := fun _ => none) (fun _ => True.intro) ry g⟩
    ·rw [Qah hb2] at e
     refine (I.hok b v e).stay (fun c o hc q => kp c o (fun z => ?_) q) (fun c q => ?_) fun c xs q => ?_
     ·rcases hc with rfl | hc
      ·exact hb z
      ·rw [z, ea] at hc; cases hc
     ·rw [Qah (fun z => by rw [z, ea] at q; cases q), Qah (Qai q hd)]; exact q
     ·rw [Qah (fun z => by rw [z, ea] at q; cases q), Qah (Qai q hd)]; exact q
theorem Qh5 {d : Addr} {fs : List (Str × V)} (I : Inv X pins σ H s) (ea : H a = some (bareO a (.ref C) (some d))) (ed : H d = some (.xd fs)) (T : XCls X.K C) (n : NoAttr X.K C f) (hl : fs.length < 1000) (ry : RelV y u)
 (h : ∀ s', Inv X pins σ (upd H d (.xd (putF f y fs))) s' → Q () s') : wpAny (model X.prog X.w) A (setAttr (.ref a) f u) Q E s := by
 obtain ⟨t, e0⟩ := Qd7 I.hok ea
 obtain ⟨mA, hn, rel⟩ := (show ObjOk X.prog X.w H s.heap d (.xd fs) from I.hok d _ ed)
 obtain ⟨hp, g, dr, tk, os⟩ := s
 have KX := I.kIn
 have hda : d ≠ a := fun z => by rw [z, ea] at ed; cases ed
 refine Qgn (mA := mA) (ns := fs.map (·.1)) PySem.F.store_ValueError (T.xc KX) (T.pass KX) (Qcj KX T.sa) (Qcj KX n) ⟨_, e0, rfl, (fun c z => nomatch z), .inr ⟨d, rfl, hda, hn⟩⟩ (Qhq rel) (by rw [List.length_map, sizeLine_eq]; omega) fun h' tk' st => ?_
 obtain ⟨⟨o', i1, i2, i3, i4⟩, keep, same, newd⟩ := st
 obtain ⟨o1, s1, s2, s3, s4, s5⟩ := same _ e0
 have n2 := s5 d rfl
 have q2 : o' = o1 := Option.some.inj (i1.symm.trans s1)
 rw [q2] at i4
 rcases i4 with ⟨z, _⟩ | ⟨d', z, z2, ns⟩
 ·rw [n2] at z; cases z
 ·rw [n2] at z
  cases z
  have e1 : h'.get? a = some { cls := .ref C, dict := some d, data := .fields #[.ref t, .none, .none, .none, .bool false, .none] } := by
   rw [s1]
   obtain ⟨oc, od, odt, osl⟩ := o1
   dsimp only at s2 s3 s4 n2
   subst s2 s3 s4 n2
   rfl
  have kp : ∀ b o, b ≠ d → hp.get? b = some o → h'.get? b = some o := fun b o hb e => by
   by_cases z : b = a
   ·rw [z] at e ⊢
    rw [e0] at e
    cases e
    exact e1
   ·exact keep b o z (fun o0 dx q1 q2 => by rw [e0] at q1; cases q1; cases q2; exact hb) e
  refine h _ (I.step (g' := g) (d' := dr) (t' := tk') (ch := []) (fun _ z => nomatch z) (fun b o _ _ _ e nb => kp b o (fun z => by rw [z, ed] at nb; cases nb) e) (fun b o _ _ _ e nb => ⟨o.slots, kp b o (fun z => by rw [z, ed] at nb; cases nb) e⟩)
   (fun b o _ e nb => ?_) (fun b o _ e => ?_) (fun b xs e => ?_) (fun b o v e => ?_) (fun b ps e => ?_) (fun m hm => ?_) (fun b v e => ?_) I.bare)
  ·rw [Qah (fun z => by rw [z, ed] at nb; cases nb)]
   exact nb
  ·by_cases hb : b = d
   ·obtain ⟨od, _, _, q, _⟩ := ns
    exact ⟨_, hb ▸ q⟩
   ·exact ⟨o, kp b o hb e⟩
  ·rw [Qah (fun z => by rw [z, ed] at e; cases e)]
   exact e
  ·rw [Qah (fun z => by rw [z, ed] at e; cases e)]
   exact e
  ·exact ⟨#[], by rw [Qah (fun z => by rw [z, ed] at e; cases e), e]; simp⟩
  ·obtain ⟨o, es, ep, ho, r⟩ := hm
   exact ⟨o, es, ep, kp _ o (fun z => by have q := I.free; rw [z, ed] at q; cases q) ho, r⟩
  ·by_cases hb : b = d
   ·subst hb
    rw [Qab] at e
    cases e
    exact ⟨_, ns, fun g => Qib rel ry g⟩
   ·rw [Qah hb] at e
    refine (I.hok b v e).stay (fun c o hc q => kp c o (fun z => ?_) q) (fun c q => ?_) fun c xs q => ?_
    ·rcases hc with rfl | hc
     ·exact hb z
     ·rw [z, ed] at hc; cases hc
    ·rw [Qah (fun z => by rw [z, ed] at q; cases q)]; exact q
    ·rw [Qah (fun z => by rw [z, ed] at q; cases q)]; exact q
theorem letgo {x : Addr} {C : Value} {dx : Option Addr} (I : Inv X pins σ H s) (e : H x = some (bareO x C dx)) : Inv X pins σ (fun b => if b = x then none else H b) s := by
 have go : ∀ {b : Addr} {o : HO}, (fun b => if b = x then none else H b) b = some o → H b = some o := fun {b o} q => by
  dsimp only at q
  split at q
  ·cases q
  ·exact q
 have off : ∀ {b : Addr}, H b = none → (fun b => if b = x then none else H b) b = none := fun {b} q => by
  dsimp only
  split
  ·rfl
  ·exact q
 have on : ∀ {b : Addr} {o : HO}, H b = some o → o ≠ bareO x C dx → (fun b => if b = x then none else H b) b = some o := fun {b o} q ne => by
  dsimp only
  rw [if_neg (fun z => ne (by rw [z, e] at q; exact (Option.some.inj q).symm))]
  exact q
 refine ⟨I.ok, I.os, I.bare, ⟨I.base.keep, I.base.slot, fun b ob q n hx => off (I.base.free b ob q n hx), I.base.there, fun b xs q => on (I.base.tups b xs q) (fun z => nomatch z), fun b ob u q => on (I.base.frzs b ob u q) (fun z => nomatch z), fun b ps q => ?_⟩, I.loc, I.cell, off I.free, fun y c q => off (I.freeC y c q), fun p hp => ?_, fun b u q => ?_, I.len⟩
 ·obtain ⟨more, q'⟩ := I.base.tbls b ps q
  exact ⟨more, on q' (fun z => nomatch z)⟩
 ·obtain ⟨q, n, r⟩ := I.pin p hp
  exact ⟨q, off n, r⟩
 ·exact (I.hok b u (go q)).stay (fun _ _ _ z => z) (fun c z => on z (fun z => nomatch z)) fun c xs z => on z (fun z => nomatch z)
end
def sFldB (K : Q4) (ta tv : TE) (f : Str) : TS := fun D σ H => tv σ H fun y H1 => ta σ H1 fun x H2 => ∃ a C, x = .ref a ∧ XCls K C ∧ NoAttr K C f ∧
 ((H2 a = some (bareO a (.ref C) none) ∧ ∀ d, H2 d = none → d ≠ a → D.nx σ (upd (upd H2 d (.xd (putF f y []))) a (bareO a (.ref C) (some d)))) ∨
  (∃ d fs, H2 a = some (bareO a (.ref C) (some d)) ∧ H2 d = some (.xd fs) ∧ fs.length < 1000 ∧ D.nx σ (upd H2 d (.xd (putF f y fs)))))
section
variable {X : Cx} {o value : Expr} {f : Str} {pos pos' : Pos} {ta tv : TE}
theorem Qeo (ha : PE X o ta) (hv : PE X value tv) (hs : swapsWith value (some (.Attribute o f pos')) pos.line X.env = pure false) : PS X (.Assign [.Attribute o f pos'] value pos) (sFldB X.K ta tv f) := by
 intro pins s σ H D I h
 refine plainObj_wpAny_Assign_Attribute (thn (hv pins s σ H _ I h) fun u s1 ⟨y, H1, I1, ry, q⟩ => thn (ha pins s1 σ H1 _ I1 q) fun ov s2 ⟨x, H2, I2, rx, a, C, ex, T, n, q2⟩ => ?_) hs
 subst ex
 obtain rfl : ov = Value.ref a := rx
 rcases q2 with ⟨ea, q2⟩ | ⟨d, fs, ea, ed, l, q2⟩
 ·exact Qj8 I2 ea T n ry fun d s3 hd hda I3 => ⟨σ, _, I3, q2 d hd hda⟩
 ·exact Qh5 I2 ea ed T n l ry fun s3 I3 => ⟨σ, _, I3, q2⟩
end
def tRaiseI (R : St → Prop) (C : Addr) (sp : Sp) (ta : TA) (Ek : XK) : TS := fun _ σ H => ta σ H fun vs H1 => vs.length ≤ sizeLine ∧ R σ ∧ ∀ x, H1 x = none →
 sp (.ref x :: vs) (upd H1 x (bareO x (.ref C) none)) (fun v H2 => v = .non ∧ ∃ dx, H2 x = some (bareO x (.ref C) dx) ∧ Ek (.ref C) dx (fun b => if b = x then none else H2 b)) E0
section
variable {X : Cx} {cm : Bool} {k : Nat} {fI : Addr} {fd : FuncData} {ps : List Str} {sp : Sp} {x : Str} {C : Addr} {np cpos pos : Pos} {e : Expr} {es : List Expr} {ta : TA} {R : St → Prop} {Ek : XK}
theorem Qc5 (hc : X.calm = true) (hxe : XeIs X R Ek) (hg : Gl X x) (hm : X.mg x = some (.ref C)) (T : XCls X.K C) (hi : findIn X.K (.ref C) "__init__" = some (some (.ref fI))) (hfn : PySem.W.isFn X.K (.ref fI) = true)
 (F : FnOk X.prog X.w X.K X.mg X.base CX0 cm k fI fd ps sp) (hr : Room cm (k + 1) X.A) (hb : Binds X.K fd ps []) (ha : PA X (e :: es) ta)
 (hdb : (x == ("__debug__" : Str)) = false := by decide) (he : starEach (e :: es) X.env = (false, eval e X.env) :: starEach es X.env := by rfl) (hpl : (backTo cpos (starEach (e :: es) X.env)).any (·.1) = false := by rfl) :
 PS X (.Raise (some (.Call (.Name x np) (e :: es) [] cpos)) none pos) (tRaiseI R C sp ta Ek) := by
 intro pins s σ H D I h
 refine Qhg (C := C) (bm := bmOf X.K C) (iv := .ref fI) (I.ok.hd hc) hpl (Qc2 I hg hm ⟨rfl, ?_⟩ hdb)
 have hbk : backTo cpos (starEach (e :: es) X.env) = (false, eval e X.env) :: backTo cpos (starEach es X.env) := by rw [he]; rfl
 rw [hbk]
 refine Calls.evalArgs_plain ?_
 rw [← hbk]
 refine thn (ha cpos pins s σ H _ I h) fun us s1 ⟨vs, H1, I1, r, hl, hR, hE⟩ => ?_
 have hlen : us.length ≤ sizeLine := by rw [← r.length]; exact hl
 refine ⟨rfl, hlen, T.xc I1.kIn, Qcj I1.kIn hi, fun h' x' hm' hs' => ?_⟩
 obtain ⟨hp, g, d, t, os⟩ := s1
 have nx : H1 x' = none := I1.hok.fresh hs'
 have fx : FpOk X pins H1 x' := I1.fpOk hs' nx
 obtain ⟨tt, hx2, htn, ht⟩ := hm'.there
 have I2 : Inv X pins σ H1 ⟨h', g, d, t, os⟩ := I1.kept (t' := t) hm'.keeps
 have I3 := track (o := bareO x' (.ref C) none) I2 fx (Qhc hx2)
 refine PySem.W.Looks.here (s := ⟨h', g, d, t, os⟩) (PySem.W.bind_fn I3.kIn (.ref x') (beq_iff_eq.mp hfn)) ?_
 have sp1 := hE x' nx
 have rv : Vals (.ref x' :: vs) (.ref x' :: us) := .cons rfl r
 have hln : (Value.ref x' :: us).length = ps.length := by rw [← rv.length]; exact F.len _ _ _ _ sp1
 have hbi : BindsTo ⟨h', g, d, t, os⟩ fd ⟨.ref x' :: us, []⟩ (ps.zip (.ref x' :: us)) := by
  have z := hb ⟨h', g, d, t, os⟩ (.ref x' :: us) I3.kIn (by rw [List.append_nil]; exact hln)
  rw [List.append_nil] at z
  exact z
 refine wpAny_call (codeAny_mono (F.run _ X.stack _ _ ⟨.ref x' :: us, []⟩ (.ref x' :: us) (.ref x' :: vs) _ E0 (hr.make C us []) (I3.env0.make C us []) hbi rv sp1) fun rr s4 hq => ?_)
 cases rr with
 | error e => exact False.elim hq
 | ok fl =>
   cases fl with
   | next => exact False.elim hq
   | brk => exact False.elim hq
   | cont => exact False.elim hq
   | ret u =>
     obtain ⟨v, H2, os2, bare2, un2, hok2, rv2, rfl, dx, ex, hEk⟩ := hq
     have I4 : Inv X pins σ H2 s4 := I3.call' os2 un2 hok2 bare2 (ch := []) (fun _ z => nomatch z)
     obtain ⟨t4, e4⟩ := Qd7 I4.hok ex
     have I5 := letgo I4 ex
     refine ⟨rv2, T.xc I4.kIn, ⟨dx, t4, e4⟩, hxe pins σ _ s4 x' (.ref C) dx I5 hR ⟨⟨if_pos rfl, fx.2⟩, .inl ⟨_, _, e4, rfl, rfl, rfl, rfl, rfl⟩⟩ hEk⟩
end
end L2
namespace L2
open PySem PySem.Spec PyProof.Rows L3
section
variable {X : Cx}
theorem Qaz : OpR X (binaryOp .Mult) (rI IntMulOk fun i j => .int (i * j)) := opI fun _ _ _ _ _ _ _ hc q => mul_int q hc
theorem Qdo : OpR X (binaryOp .FloorDiv) (rI (fun _ j => j ≠ 0 ∧ j.natAbs.log2 < 9000) fun i j => .int (i.fdiv j)) := opI fun _ _ _ _ _ _ _ hc q => floordiv_int hc.1 q (.inl (PyProof.noPylong_of_log2 hc.2))
theorem Qfk : CallR X (.builtin "abs") (fun xs H Q => ∃ i : Int, xs = [.int i] ∧ Q (.int (i.natAbs : Nat)) H) := by
 intro pins s σ H xs us Q I r h
 obtain ⟨i, rfl, q⟩ := h
 obtain ⟨u, rfl, t, rfl⟩ := vals1 r
 have e : (if i < 0 then -i else i) = ((i.natAbs : Nat) : Int) := by split <;> omega
 exact call_abs_int fun u tk => ⟨.int (if i < 0 then -i else i), H, I.tok _, ⟨_, rfl⟩, by rw [e]; exact q⟩
end
theorem Qgb {x : Int} (lo : -(2 ^ 250 * 2 ^ 250 * 2 ^ 250 * 2 ^ 250) ≤ x) (hi : x ≤ 2 ^ 250 * 2 ^ 250 * 2 ^ 250 * 2 ^ 250) : Builtin.Int.intBits x ≤ 1001 := by
 refine PySem.intBits_le_iff.mpr ?_
 have e : (2 : Nat) ^ 1001 = 2 ^ 250 * 2 ^ 250 * 2 ^ 250 * 2 ^ 250 * 2 := by
  rw [show (1001 : Nat) = 250 + 250 + 250 + 250 + 1 from rfl, Nat.pow_add, Nat.pow_add, Nat.pow_add, Nat.pow_add]
 rw [e]
 omega
theorem log_of {y : Int} (h0 : y ≠ 0) (lo : -(2 ^ 250 * 2 ^ 250 * 2 ^ 250 * 2 ^ 250) ≤ y) (hi : y ≤ 2 ^ 250 * 2 ^ 250 * 2 ^ 250 * 2 ^ 250) : y ≠ 0 ∧ y.natAbs.log2 < 9000 := by
 have q := PySem.intBits_le_iff.mp (Qgb lo hi)
 have n0 : y.natAbs ≠ 0 := by omega
 have := (Nat.log2_lt n0).mpr q
 exact ⟨h0, by omega⟩
theorem Qb9 {x y : Int} (l1 : -(2 ^ 250 * 2 ^ 250 * 2 ^ 250 * 2 ^ 250) ≤ x) (h1 : x ≤ 2 ^ 250 * 2 ^ 250 * 2 ^ 250 * 2 ^ 250) (l2 : -(2 ^ 250 * 2 ^ 250 * 2 ^ 250 * 2 ^ 250) ≤ y) (h2 : y ≤ 2 ^ 250 * 2 ^ 250 * 2 ^ 250 * 2 ^ 250) : IntMulOk x y :=
 PySem.IntMulOk.of_le (Qgb l1 h1) (Qgb l2 h2) (by decide)
theorem decT {p : Prop} [Decidable p] {A B : Prop} (h : p) (k : A) : if decide p = true then A else B := by rw [if_pos (decide_eq_true h)]; exact k
theorem decF {p : Prop} [Decidable p] {A B : Prop} (h : ¬ p) (k : B) : if decide p = true then A else B := by rw [if_neg (by simpa using h)]; exact k
theorem dec2 {p : Prop} [Decidable p] {A B : Prop} (h1 : p → A) (h2 : ¬ p → B) : if decide p = true then A else B := by
 by_cases h : p
 ·exact decT h (h1 h)
 ·exact decF h (h2 h)
theorem ndecT {p : Prop} [Decidable p] {A B : Prop} (h : ¬ p) (k : A) : if (!decide p) = true then A else B := by rw [if_pos (by simp [h])]; exact k
theorem ndecF {p : Prop} [Decidable p] {A B : Prop} (h : p) (k : B) : if (!decide p) = true then A else B := by rw [if_neg (by simp [h])]; exact k
theorem ndec2 {p : Prop} [Decidable p] {A B : Prop} (h1 : ¬ p → A) (h2 : p → B) : if (!decide p) = true then A else B := by
 by_cases h : p
 ·exact ndecF h (h2 h)
 ·exact ndecT h (h1 h)
theorem Qgd (b : Bool) {A B : Prop} (h1 : b = true → A) (h2 : b = false → B) : if b = true then A else B := by
 cases b
 ·exact h2 rfl
 ·exact h1 rfl
end L2
namespace L2
open PySem PySem.Spec PyProof.Rows L3
theorem Qbn : bootBuiltins "len" = some (.builtin "len") := by decide+kernel
theorem Ql5 : bootBuiltins "abs" = some (.builtin "abs") := by decide+kernel
theorem Qa6 : bootBuiltins "isinstance" = some (.builtin "isinstance") := by decide+kernel
theorem bt_int : bootBuiltins "int" = some (.type "int") := by decide+kernel
theorem Qcm : bootBuiltins "list" = some (.type "list") := by decide+kernel
theorem Qe1 : bootBuiltins "ValueError" = some (.type "ValueError") := by decide+kernel
def Def (K : Q4) (mg : Str → Option Value) (x : Str) (st : Stmt) (dV : Value) : Prop := ∃ f fd, FunD K x x st f fd dV ∧ mg x = some (.ref f)
def Cal (P : Program) (w : World) (K : Q4) (mg : Str → Option Value) (base : Heap) (CX : CXT) (cm : Bool) (k : Nat) (x : Str) (ps : List Str) (ds : List V) (sp : Sp) : Prop :=
 ∃ f fd dvs, FnOk P w K mg base CX cm k f fd ps sp ∧ mg x = some (.ref f) ∧ keepIn K (.ref f) = true ∧ Binds K fd ps [] ∧ Vals ds dvs ∧ Binds K fd ps dvs
theorem FunD.bindsD {K : Q4} {x qual : Str} {st : Stmt} {f T : Addr} {fd : FuncData} {ps : List Str} {ds : List Value} {items : Array Value} {od : Option Addr} {n : Nat} {sl : Array Q5} (F : FunD K x qual st f fd (.ref T))
 (lT : K.lookup T = some ⟨.type "tuple", od, .seq items n, sl⟩) (m : Nat) (hm : m + ds.length = ps.length)
 (h : ∀ (kV doc pm : Value) (an : Option Addr) (cdv ct : Value) (us : List Value), us.length = m →
  ∃ k, bindArgs (fnOf x qual (defArgs st) (defBody st) (defScope st) (.ref T) kV doc pm an cdv ct) ⟨us, []⟩ = seqItems? (.ref T) >>= k ∧ k (some items) = pure (ps.zip (us ++ ds))) : Binds K fd ps ds := by
 obtain ⟨oc, od', kV, doc, pm, an, cdv, ct, osl, rfl, lk, hcd⟩ := F.ex
 intro s us KX hl
 obtain ⟨k, h1, h2⟩ := h kV doc pm an cdv ct us (by rw [List.length_append] at hl; omega)
 exact BindsTo.of_defaults rfl (KX _ _ lT) rfl h1 h2
theorem Qcc {X : Cx} {x : Addr} : CallR (sup X x) (.builtin "isinstance") (rIs X.K) := Qnq (X := sup X x)
end L2
namespace L2
open PySem PySem.Spec PyProof.Rows L3
theorem Qhp {X : Cx} : XeIs X (fun _ => True) E0 := fun _ _ _ _ _ _ _ _ _ _ z => z.elim
end L2
namespace L2
open PySem PySem.Spec PyProof.Rows L3
end L2
namespace L2
open PySem PySem.Spec PyProof.Rows L3
def eqPl : V → Bool
 | .byt _ => false
 | .flt _ => false
 | _ => true
theorem Qc9 {A : Around} {s : Shared} {x : V} {v u : Value} (hp : eqPl x = true) (r : RelV x v) (r' : RelV x u) : SeqAt.EqAt A s v u true := by
 cases x with
 | non => cases r; cases r'; exact SeqAt.EqAt.same _
 | bl b => cases r; cases r'; exact SeqAt.EqAt.same _
 | int i =>
   obtain ⟨t, rfl⟩ := r
   obtain ⟨t', rfl⟩ := r'
   have := SeqAt.EqAt.int_int (A := A) (s := s) i t i t'
   rw [beq_self_eq_true] at this
   exact this
 | str i =>
   obtain ⟨t, rfl⟩ := r
   obtain ⟨t', rfl⟩ := r'
   have := SeqAt.EqAt.str_str (A := A) (s := s) i t i t'
   rw [beq_self_eq_true] at this
   exact this
 | byt b => cases hp
 | flt b => cases hp
 | ref a => cases r; cases r'; exact SeqAt.EqAt.same _
 | ty n => cases r; cases r'; exact SeqAt.EqAt.same _
theorem Qbj : ∀ {xs : List V} {us : List Value}, Vals xs us → ∀ j (h : j < us.length), ∃ x, xs[j]? = some x ∧ RelV x us[j] := by
 intro xs us r
 induction r with
 | nil => intro j h; cases h
 | cons r rr ih =>
   intro j h
   cases j with
   | zero => exact ⟨_, rfl, r⟩
   | succ j => exact ih j (by simpa using h)
end L2
namespace L2
open PySem PySem.Spec PyProof.Rows L3
def Cx.inC (X : Cx) (scope : Scope) (cl : List (Str × Addr)) (C : Addr) (s2 : Shared) (H2 : Hp) (fp : List Addr) (N' : List Str) (xe : Q0) : Cx :=
 { X with N := N', s₀ := s2, H₀ := H2, env := compEnvC scope cl C X.env, outer := X.stack, ex := fp, fn := fun _ => false, pn := [], xe := xe }
def tLC (wi : TI) (te : TE) (js : List Nat) : TE := fun σ H Q => wi σ H fun J H1 => ∃ W : Nat → Nat → List V → Hp → Prop, (∃ m, W 0 m [] H1) ∧ ∀ i m ys H, W i m ys H →
 (J.stop i H ∧ ∀ l, H l = none → Q (.ref l) (upd H l (.lst ys))) ∨ (J.go i H ∧ ys.length < sizeLine ∧ ∃ N : VK, (∀ y H2, N y H2 → ∃ m', m' < m ∧ W (i + 1) m' (ys ++ [y]) H2) ∧ ∀ x H', J.yld i H x H' → te (some x :: js.map (fun j => σ.getD j none)) H' N)
section
variable {X : Cx}
structure LcOk (X : Cx) (x : Str) (scope : Scope) (cl : List (Str × Addr)) (js : List Nat) : Prop where
 clos : closureFor scope X.env = pure cl
 sub : ∀ y c, cl.lookup y = some c → X.env.cells.lookup y = some c
 kind : scope.kind = .function
 cell : ∀ y ∈ scope.names, y.2 ≠ .cell
 names : ∀ y ∈ scope.names, y.2 = .local → scope.names.lookup y.1 = some .local
 loc : scope.names.lookup x = some .local
 has : ∀ y, (((relabel scope X.env).names.lookup y = some .cell) ∨ ((relabel scope X.env).names.lookup y = some .free)) → ∃ c, cl.lookup y = some c
 nd : (x :: js.map (fun j => X.N.getD j "")).Nodup
 fr : ∀ j ∈ js, ∃ y, X.N[j]? = some y ∧ X.env.kindOf y = some .cell ∧ (relabel scope X.env).names.lookup y = some .cell ∧ ∃ c, cl.lookup y = some c
theorem Inv.inC {x : Str} {scope : Scope} {cl : List (Str × Addr)} {js : List Nat} {pins : Q3} {σ : St} {H2 : Hp} {s2 : Shared} {fp : List Addr} {C D : Addr} {h1 : Heap} {xe : Q0} {oD : Obj} {m0 : Str → Option Value}
 (L : LcOk X x scope cl js) (I2 : Inv X pins σ H2 s2) (f2 : ∀ b ∈ fp, FpOk X pins H2 b) (fo : ∀ b ∈ fp, ∃ o, s2.heap.get? b = some o) (hC : s2.heap.objs.size ≤ C) (hD : s2.heap.objs.size ≤ D) (hDC : D ≠ C)
 (old : ∀ b o, s2.heap.get? b = some o → h1.get? b = some o) (hns : h1.Ns C m0) (hoD : h1.get? D = some oD) (hdD : ∀ v, oD.data ≠ .cell v) {t' : Nat} :
 Inv (X.inC scope cl C s2 H2 fp (x :: js.map (fun j => X.N.getD j "")) xe) [(D, oD)] (none :: js.map (fun j => σ.getD j none)) H2 { s2 with heap := h1, toks := t' } where
 ok := {
  mod := I2.ok.mod
  kind := L.kind
  glob := I2.ok.glob
  blt := I2.ok.blt
  above := hC
  inj := fun a b c e1 e2 => I2.ok.inj a b c (L.sub a c e1) (L.sub b c e2)
  has := fun y hy => L.has y hy
  cab := fun _ _ z => nomatch z
  hd := I2.ok.hd
  frames := I2.ok.frames
  stk := .inl rfl
  exf := fun b hb => by
   obtain ⟨o, e⟩ := fo b hb
   refine ⟨Nat.ne_of_lt (Nat.lt_of_lt_of_le (Heap.lt_size e) hC), fun y c e' => ?_⟩
   exact (f2 b hb).2.2.2.2.1 y c (L.sub y c e')
  bs := fun b o e => I2.bs b o e
  bsz := Nat.le_trans I2.ok.bsz I2.sz
  noex := fun b o e hb => by
   rcases (f2 b hb).2.2.2.1 with z | z
   ·exact I2.ok.noex b o e z
   ·exact absurd (Nat.lt_of_lt_of_le (Heap.lt_size e) (Nat.le_trans I2.ok.bsz z)) (Nat.lt_irrefl _)
  exfs := fun b hb z => by
   rcases List.mem_cons.mp (I2.stkSub b z) with e | e
   ·exact (f2 b hb).2.1 e
   ·exact (f2 b hb).2.2.1 e
  funs := I2.stack
  frf := I2.stkFree }
 os := rfl
 bare := I2.bare
 base := Un.kept old
 loc := by
  refine ⟨m0, hns, fun i y v e1 e2 e3 => ?_⟩
  cases i with
  | zero => cases e2
  | succ k =>
    have e1' : (js.map (fun j => X.N.getD j ""))[k]? = some y := e1
    have e2' : (js.map (fun j => σ.getD j none))[k]? = some (some v) := e2
    rw [List.getElem?_map] at e1' e2'
    cases hj : js[k]? with
    | none => rw [hj] at e1'; cases e1'
    | some j =>
      rw [hj] at e1' e2'
      obtain ⟨y', n1, n2, n3, c, n4⟩ := L.fr j (List.mem_of_getElem? hj)
      have e1'' : X.N.getD j "" = y := Option.some.inj e1'
      have e2'' : σ.getD j none = some v := Option.some.inj e2'
      have : y' = y := by
       rw [List.getD, n1] at e1''
       exact e1''
      subst this
      have hσ : σ[j]? = some (some v) := by
       rw [List.getD] at e2''
       cases q : σ[j]? with
       | none => rw [q] at e2''; cases e2''
       | some z => rw [q] at e2''; exact congrArg some e2''
      obtain ⟨m, hn, hl⟩ := I2.loc
      obtain ⟨u, r, l⟩ := hl j y' v n1 hσ (.inr (.inl n2))
      refine ⟨u, r, ?_⟩
      rcases l with ⟨k1, _⟩ | ⟨_, c', k2, k3⟩
      ·rw [n2] at k1; cases k1
      ·have : c' = c := by
        have := L.sub _ _ n4
        rw [k2] at this
        exact Option.some.inj this
       subst this
       obtain ⟨o, ho, hd⟩ := k3
       exact .inr ⟨.inl n3, c', n4, o, old _ _ ho, hd⟩
 cell := fun y c e => by
  obtain ⟨v, o, ho, hd⟩ := I2.cell y c (L.sub y c e)
  exact ⟨v, o, old _ _ ho, hd⟩
 free := I2.hok.fresh hC
 freeC := fun y c e => I2.freeC y c (L.sub y c e)
 pin := fun p hp => by
  have e : p = (D, oD) := by simpa [Cx.inC] using hp
  subst e
  refine ⟨hoD, I2.hok.fresh hD, hDC, fun z => ?_, hdD⟩
  rcases List.mem_cons.mp (I2.stkSub D z) with e | e
  ·exact absurd I2.lt (by rw [← e]; exact Nat.not_lt.mpr hD)
  ·exact I2.nofs hD e
 hok := I2.hok.kept old
 len := by simp [Cx.inC]
theorem Qiy {elt iter : Expr} {x : Str} {px pos cpos : Pos} {scope : Scope} {cl : List (Str × Addr)} {wi : TI} {te : TE} {js : List Nat} {use : Option (Value → Sem Unit)} {Qc : Q0} {pins : Q3} {s : Shared} {σ : St} {H : Hp} {Q : VK}
 (hc : X.calm = true) (L : LcOk X x scope cl js) (hi : PI X (.Name x px) iter wi) (G : Cx → Prop)
 (he : ∀ C s2 H2 fp xe, G (X.inC scope cl C s2 H2 fp (x :: js.map (fun j => X.N.getD j "")) xe) → PE (X.inC scope cl C s2 H2 fp (x :: js.map (fun j => X.N.getD j "")) xe) elt te)
 (hG : ∀ (C D : Addr) (s2 : Shared) (H2 : Hp) (fp : List Addr), Inv X pins σ H2 s2 → (∀ b ∈ fp, FpOk X pins H2 b) → (∀ b ∈ fp, ∃ o, s2.heap.get? b = some o) → s2.heap.objs.size < C →
  G (X.inC scope cl C s2 H2 fp (x :: js.map (fun j => X.N.getD j "")) (notedBy (model X.prog X.w) X.A (compEnvC scope cl C X.env) fun e s' => compPost (model X.prog X.w) X.A X.xe use Qc (.ref D) C (.error e) s')))
 (hs : ∀ z, foldedSetIterable iter X.env z = pure z) (I : Inv X pins σ H s) (h : tLC wi te js σ H Q)
 (fin : ∀ (D C : Addr) (H4 : Hp) (s4 : Shared) (m : Str → Option Value), s4.heap.Ns C m → FpOk X pins H4 C → (∀ h', Heap.SameBut C s4.heap h' → Inv X pins σ H4 { s4 with heap := h' }) → Q (.ref D) H4 → compPost (model X.prog X.w) X.A X.xe use Qc (.ref D) C (.ok .next) s4) :
 wpAny (model X.prog X.w) X.A (comprehension (.ListComp elt [⟨.Name x px, iter, [], 0⟩] scope pos) scope X.env cpos (newList []) false (eval iter X.env) use) Qc X.xe s := by
 refine wpAny_comprehension_free (cl := cl) (use := use) rfl hs L.clos L.kind L.names ?_
 refine thn (hi pins s σ H _ I h) fun v s1 h1 => thn h1 fun itv s2 h2 => ?_
 obtain ⟨it, fp, tn, J, H2, e, I2, T, st2, f2, W, ⟨k0, w0⟩, turn⟩ := h2
 subst e
 refine wpAny_newObj_type (wpAny_newFunctionEnv L.cell (by intro y hy; simp at hy) (fun h₁ hns₁ hsb₁ => ?_) L.kind)
 dsimp only at hns₁ hsb₁ ⊢
 generalize hH2 : s2.heap.push { cls := .type "list", dict := none, data := .seq ([] : List Value).toArray } = Hp2 at hns₁ hsb₁ ⊢
 have hC : Hp2.objs.size = s2.heap.objs.size + 1 := by rw [← hH2, Heap.size_push]
 generalize hD0 : s2.heap.objs.size = D at hC ⊢
 generalize hC0 : Hp2.objs.size = C at hC hns₁ hsb₁ ⊢
 have hDC : D ≠ C := by omega
 have below : ∀ b, b < D → b ≠ C := fun b hb => by omega
 have old : ∀ b o, s2.heap.get? b = some o → h₁.get? b = some o := fun b o e =>
  hsb₁.extBut b o (below b (by rw [← hD0]; exact Heap.lt_size e)) (Heap.get?_push_of_some _ (hH2 ▸ Heap.get?_push_of_some _ e))
 have hacc : h₁.get? D = some { cls := .type "list", data := .seq ([] : List Value).toArray 0 } := by
  subst hD0
  exact hsb₁.extBut _ _ hDC (Heap.get?_push_of_some _ (hH2 ▸ Heap.get?_push_size _ rfl))
 have fo : ∀ b ∈ fp, ∃ o, s2.heap.get? b = some o := fun b hb => let ⟨o, e, _⟩ := T.obj _ _ st2 b hb; ⟨o, e⟩
 have flt : ∀ b ∈ fp, b < D := fun b hb => let ⟨o, e⟩ := fo b hb; by rw [← hD0]; exact Heap.lt_size e
 have st1 : tn 0 h₁ := T.keep _ _ _ st2 fun b hb o e => old b o e
 have gx := hG C D s2 H2 fp I2 f2 fo (by omega)
 let R := compPost (model X.prog X.w) X.A X.xe use Qc (.ref D) C
 let xe := notedBy (model X.prog X.w) X.A (compEnvC scope cl C X.env) fun e s' => R (.error e) s'
 let X' := X.inC scope cl C s2 H2 fp (x :: js.map (fun j => X.N.getD j "")) xe
 have I0 : ∀ {t' : Nat}, Inv X' [(D, _)] (none :: js.map (fun j => σ.getD j none)) H2 { s2 with heap := h₁, toks := t' } := fun {t'} =>
  Inv.inC L I2 f2 fo (by omega) (by omega) hDC old hns₁ hacc (fun v z => by cases z)
 have fpk : ∀ {pD : Q3} {H' : Hp}, (∀ p ∈ pD, p.1 = D) → (∀ b ∈ fp, H' b = none) → ∀ b ∈ fp, FpOk X' pD H' b := fun {pD H'} hp hn b hb => by
  refine ⟨hn b hb, below b (flt b hb), fun z => ?_, .inl hb, fun y c e => (f2 b hb).2.2.2.2.1 y c (L.sub y c e), fun p hp' z => ?_⟩
  ·rcases List.mem_cons.mp (I2.stkSub b z) with e | e
   ·exact (f2 b hb).2.1 e
   ·exact (f2 b hb).2.2.1 e
  ·have q := hp p (by simpa [X', Cx.inC] using hp')
   have := flt b hb
   rw [← z, q] at this
   exact Nat.lt_irrefl _ this
 have loop : ∀ s3 : Shared, (∃ k i ys H' its n σ0, Inv X' [(D, { cls := .type "list", data := .seq (its : List Value).toArray n })] (σ0 :: js.map (fun j => σ.getD j none)) H' s3 ∧ tn i s3.heap ∧ (∀ b ∈ fp, H' b = none) ∧ W i k ys H' ∧ Vals ys its ∧ ys.length ≤ sizeLine) →
  codeAny (model X.prog X.w) X.A (.compLoop (.ListComp elt [⟨.Name x px, iter, [], 0⟩] scope pos) 0 (.ref it) (.ref D) (compEnvC scope cl C X.env)) R s3 := by
  rintro s3 ⟨k, hk⟩
  refine codeAny_loop rfl (fun k s3 => ∃ i ys H' its n σ0, Inv X' [(D, { cls := .type "list", data := .seq (its : List Value).toArray n })] (σ0 :: js.map (fun j => σ.getD j none)) H' s3 ∧ tn i s3.heap ∧ (∀ b ∈ fp, H' b = none) ∧ W i k ys H' ∧ Vals ys its ∧ ys.length ≤ sizeLine) (fun k s3 hI => ?_) k hk
  obtain ⟨i, ys, H3, its, n, σ0, I3, st3, fr3, w3, vy, hz⟩ := hI
  show wpAny _ _ ((compTurn (.ListComp elt [⟨.Name x px, iter, [], 0⟩] scope pos) 0 (.ref it) (.ref D) (compEnvC scope cl C X.env)).onRaise (fun x => do noteFrame x (compEnvC scope cl C X.env); theTreesLotGoes x)) _ _ s3
  refine wpAny_noted ?_
  rw [compTurn_list1]
  have hpD : ∀ {o : Obj}, ∀ p ∈ [(D, o)], p.1 = D := fun p hp => by rw [List.mem_singleton.mp hp]
  refine wpAny_bind (wpAny_standAt (wpAny_bind ?_))
  rcases turn i k ys H3 w3 with ⟨stop, qn⟩ | ⟨go, hlen, N, hN, step⟩
  ·refine thn (T.done X' rfl rfl rfl hc i _ s3 _ H3 xe I3 (fpk hpD fr3) st3 stop) fun r s4 ⟨hr, I4⟩ => ?_
   subst hr
   refine wpAny_pure ?_
   obtain ⟨m, hn, _⟩ := I4.loc
   obtain ⟨eD, nD, _⟩ := I4.pin (D, _) (List.mem_append_right _ (List.mem_singleton.mpr rfl))
   have fC : FpOk X pins (upd H3 D (.lst ys)) C := I2.fpOk (by omega) (by
    rw [Qah (Ne.symm hDC)]
    exact I4.free)
   refine fin D C (upd H3 D (.lst ys)) s4 m hn fC (fun h' sb => ?_) (qn D nD)
   obtain ⟨hh, g, d, t, os'⟩ := s4
   obtain rfl : os' = s2.os := I4.os
   have kp : ∀ b o, b ≠ C → hh.get? b = some o → h'.get? b = some o := fun b o hb e => (sb.2 b hb).trans e
   have lt2 : ∀ b o, s2.heap.get? b = some o → b ≠ C ∧ b ≠ D := fun b o e => by
    have q : b < D := by rw [← hD0]; exact Heap.lt_size e
    exact ⟨below b q, Nat.ne_of_lt q⟩
   have B : Un (frs X.stack) fp H2 H3 s2.heap hh := I4.base
   have hDn : H3 D = none := nD
   have I5 : Inv X pins σ (upd H3 D (.lst ys)) { s2 with heap := h', gens := g, drawn := d, toks := t } := by
    refine I2.call (h' := h') (g' := g) (d' := d) (t' := t) (ch := fp) ⟨?_, ?_, ?_, ?_, ?_, ?_, ?_⟩ ?_ I4.bare ?_
    ·exact fun b o e n hb hx => kp b o (lt2 b o e).1 (B.keep b o e n hb hx)
    ·intro b o e n hb hx
     obtain ⟨sl, q⟩ := B.slot b o e n hb hx
     exact ⟨sl, kp b _ (lt2 b o e).1 q⟩
    ·intro b o e n hx
     rw [Qah (lt2 b o e).2]
     exact B.free b o e n hx
    ·intro b o e hx
     obtain ⟨o', q⟩ := B.there b o e hx
     exact ⟨o', kp b o' (lt2 b o e).1 q⟩
    ·intro b xs e
     have q := B.tups b xs e
     rw [Qah (Qai q hDn)]
     exact q
    ·intro b o u e
     have q := B.frzs b o u e
     rw [Qah (Qai q hDn)]
     exact q
    ·intro b ps e
     obtain ⟨more, q⟩ := B.tbls b ps e
     exact ⟨more, by rw [Qah (Qai q hDn)]; exact q⟩
    ·intro b u e
     by_cases hb : b = D
     ·subst hb
      rw [Qab] at e
      cases e
      exact ⟨hz, its, n, vy, kp _ _ hDC eD⟩
     ·rw [Qah hb] at e
      have nC : ∀ c o, H3 c = some o → c ≠ C := fun c o q => Qai q I4.free
      refine (I4.hok b u e).stay (fun c v hc' q => kp c v ?_ q) (fun c q => by rw [Qah (Qai q hDn)]; exact q) fun c xs q => by rw [Qah (Qai q hDn)]; exact q
      rcases hc' with z | z
      ·rw [z]; exact nC b u e
      ·exact nC c _ z
    ·intro b hb
     obtain ⟨_, f1, _, f3, f4, f5⟩ := f2 b hb
     exact ⟨f3, f1, f4, f5⟩
   exact I5
  ·refine thn (T.item X' rfl rfl rfl hc i _ s3 _ H3 xe I3 (fpk hpD fr3) st3 go) fun r s4 ⟨u, hr, h4⟩ => ?_
   subst hr
   refine wpAny_bind (thn h4 fun _ s5 ⟨xv, H5, I5, r5, y5, st5, fr5⟩ => ?_)
   have I5' := I5.pinned (fpk hpD fr5) (T.obj _ _ st5)
   refine wpAny_bind (thn (Qar (X := X') (i := 0) L.nd rfl (Or.inl (lookup_relabel_local L.loc)) (Or.inr (lookup_relabel_local L.loc)) _ s5 _ H5 xv u (fun σ6 H6 => σ6 = some xv :: js.map (fun j => σ.getD j none) ∧ H6 = H5) I5' r5 ⟨rfl, rfl⟩) fun _ s6 ⟨σ6, H6, I6, e6, e6'⟩ => ?_)
   subst e6 e6'
   refine wpAny_bind (wpAny_bind (thn (he C s2 H2 fp xe gx _ s6 _ _ _ I6 (step xv _ y5)) fun y s7 ⟨yv, H7, I7, ry, n7⟩ => ?_))
   obtain ⟨m', hm, w7⟩ := hN yv H7 n7
   have I7' := I7.unpinned
   obtain ⟨eD, nD, neC, nfs, _⟩ := I7'.pin (D, _) (List.mem_append_right _ (List.mem_singleton.mpr rfl))
   have eD' : s7.heap.get? D = some { cls := .type "list", data := .seq its.toArray n } := eD
   have lv := vy.length
   refine wpAny_bind (call_meets F.slot_list_append ⟨_, eD', rfl⟩ F.entry_list_append (F.args_list_append_2 _ _) (PySem.list_append D its.toArray n y (by rw [List.size_toArray]; omega)) ⟨eD', ?_⟩)
   refine wpAny_pure (wpAny_pure ⟨rfl, m', hm, i + 1, ys ++ [yv], H7, its ++ [y], ?_⟩)
   have q := PySem.IsL.update eD' (fun a : Array Value => a.push y)
   have I8 : Inv X' [] (some xv :: js.map (fun j => σ.getD j none)) H7 { s7 with heap := s7.heap.update D (Obj.mapSeq (fun a : Array Value => a.push y)) } :=
    (I7'.Qcl (pins' := []) (fun p hp => nomatch hp)).turned (t' := s7.toks) (it := D) (fun b o hb e => (Heap.get?_update_other s7.heap _ (Ne.symm hb)).trans e) nD neC (.inr (by show s2.heap.objs.size ≤ D; omega))
     (fun z c e w => by
      obtain ⟨v', o', ho', _⟩ := I2.cell z c (L.sub z c e)
      have := Heap.lt_size ho'
      rw [w, hD0] at this
      exact Nat.lt_irrefl _ this) (fun p hp => nomatch hp)
   have pinf : ∀ b ∈ fp, ∀ o, s5.heap.get? b = some o → s7.heap.get? b = some o ∧ H7 b = none := fun b hb o e => by
    have z := I7.pin (b, o) (List.mem_append_right _ (List.mem_append_right _ (Qbs hb e)))
    exact ⟨z.1, z.2.1⟩
   obtain ⟨n', q'⟩ : ∃ n', (s7.heap.update D (Obj.mapSeq (fun a : Array Value => a.push y))).get? D = some { cls := .type "list", data := .seq (its ++ [y]).toArray n' } := by
    rw [show (its ++ [y]).toArray = its.toArray.push y by simp]
    exact ⟨_, q⟩
   refine ⟨n', some xv, I8.Qcl fun p hp => ?_, ?_, fun b hb => ?_, w7, vy.append (.cons ry .nil), by rw [List.length_append, List.length_singleton]; omega⟩
   ·rw [List.mem_singleton.mp hp]
    exact ⟨q', nD, neC, nfs, fun v z => by cases z⟩
   ·refine T.keep _ _ _ st5 fun b hb o e => ?_
    have hb' : D ≠ b := fun z => by
     have := flt b hb
     rw [← z] at this
     exact Nat.lt_irrefl _ this
    exact (Heap.get?_update_other s7.heap _ hb').trans (pinf b hb o e).1
   ·obtain ⟨o, e, _⟩ := T.obj _ _ st5 b hb
    exact (pinf b hb o e).2
 have start : ∀ {t' : Nat}, ∃ k i ys H' its n σ0, Inv X' [(D, { cls := .type "list", data := .seq (its : List Value).toArray n })] (σ0 :: js.map (fun j => σ.getD j none)) H' { s2 with heap := h₁, toks := t' } ∧ tn i h₁ ∧ (∀ b ∈ fp, H' b = none) ∧ W i k ys H' ∧ Vals ys its ∧ ys.length ≤ sizeLine := fun {t'} =>
  ⟨k0, 0, [], H2, [], 0, none, I0, st1, fun b hb => (f2 b hb).1, w0, .nil, Nat.zero_le _⟩
 exact codeAny_compStart_list (loop _ start) (T.self X.A 0 _ _ _ st1 (loop _ start))
theorem Qdl {elt iter : Expr} {x : Str} {px pos : Pos} {scope : Scope} {cl : List (Str × Addr)} {wi : TI} {te : TE} (js : List Nat) (hc : X.calm = true) (L : LcOk X x scope cl js) (hi : PI X (.Name x px) iter wi)
 (he : ∀ C s2 H2 fp xe, PE (X.inC scope cl C s2 H2 fp (x :: js.map (fun j => X.N.getD j "")) xe) elt te)
 (hs : ∀ z, foldedSetIterable iter X.env z = pure z := by intro _; rfl) :
 PE X (.ListComp elt [⟨.Name x px, iter, [], 0⟩] scope pos) (tLC wi te js) := by
 intro pins s σ H Q I h
 rw [eval_ListComp]
 exact Qiy (use := none) hc L hi (fun _ => True) (fun C s2 H2 fp xe _ => he C s2 H2 fp xe) (fun _ _ _ _ _ _ _ _ _ => trivial) hs I h fun D C H4 s4 m hn _ I4 q => ⟨m, hn, fun h' sb => ⟨.ref D, H4, I4 h' sb, rfl, q⟩⟩
theorem Qgt {i : Nat} {t : Str} {elt iter : Expr} {x : Str} {px pos cpos pos' : Pos} {scope : Scope} {cl : List (Str × Addr)} {wi : TI} {te : TE} (js : List Nat) (hN : X.N.Nodup) (hi' : X.N[i]? = some t) (hx : Loc X.env.scope t) (hc : X.calm = true) (L : LcOk X x scope cl js) (hi : PI X (.Name x px) iter wi)
 (he : ∀ C s2 H2 fp xe, PE (X.inC scope cl C s2 H2 fp (x :: js.map (fun j => X.N.getD j "")) xe) elt te)
 (hs : ∀ z, foldedSetIterable iter X.env z = pure z := by intro _; rfl) (hsw : swapsWith (.ListComp elt [⟨.Name x px, iter, [], 0⟩] scope cpos) (some (.Name t pos')) pos.line X.env = pure true := by rfl)
 (hf : X.fn t = true ∨ X.env.scope.names.lookup t = some .local := by first | exact .inl rfl | exact .inr rfl | assumption) :
 PS X (.Assign [.Name t pos'] (.ListComp elt [⟨.Name x px, iter, [], 0⟩] scope cpos) pos) (tAsg (tLC wi te js) (gName i)) := by
 intro pins s σ H D I h
 rw [exec_Assign_Name_used _ _ _ _ hsw]
 refine wpAny_bind (wpAny_standAt (wpAny_bind ?_))
 show wpAny _ X.A (do let _ ← comprehension (.ListComp elt [⟨.Name x px, iter, [], 0⟩] scope cpos) scope X.env _ (newList []) false (eval iter X.env) (some (assign (.Name t pos') X.env))) _ _ s
 refine wpAny_bind (wpAny_mono (Qiy (use := some (assign (.Name t pos') X.env)) (Qc := fun _ s' => SP X pins D .next s') hc L hi (fun _ => True) (fun C s2 H2 fp xe _ => he C s2 H2 fp xe) (fun _ _ _ _ _ _ _ _ _ => trivial) hs I h fun Dl C H4 s4 m hn fC I4 q => ?_) (fun _ s' hq => wpAny_pure (wpAny_pure hq)) fun _ _ e => e)
 show wpAny (model X.prog X.w) X.A (assign (.Name t pos') X.env (.ref Dl)) _ X.xe s4
 obtain ⟨oC, es, ep, hoC, hdC, rC⟩ := id hn
 have I4' : Inv X (pins ++ pinsAt [C] s4.heap) σ H4 s4 := (I4 s4.heap (.refl ..)).pinned (fun b hb => by rw [List.mem_singleton.mp hb]; exact fC) fun b hb => by
  rw [List.mem_singleton.mp hb]
  exact ⟨oC, hoC, fun v z => by rw [hdC] at z; cases z⟩
 refine thn (Qar hN hi' hx hf _ s4 σ H4 (.ref Dl) (.ref Dl) D.nx I4' rfl q) fun _ s5 ⟨σ5, H5, I5, q5⟩ => ?_
 obtain ⟨e5, n5, _⟩ := I5.pin (C, oC) (List.mem_append_right _ (List.mem_append_right _ (Qbs (List.mem_singleton.mpr rfl) hoC)))
 refine ⟨m, ⟨oC, es, ep, e5, hdC, rC⟩, fun h' sb => ⟨σ5, H5, ?_, q5⟩⟩
 obtain ⟨_, f1, _, f3, f4, f5⟩ := fC
 exact I5.unpinned.turned (t' := s5.toks) (it := C) (fun b o hb e => (sb.2 b hb).trans e) n5 f1 f3 f4 f5
end
end L2
namespace L2
open PySem PySem.Spec PyProof.Rows L3
theorem Qb8 {K : Q4} {a : Addr} {xs : List V} {T : V → Hp → VK → Prop} {R : Addr → Hp → List V → Prop} {H : Hp} (Pv : Nat → List V → Hp → Prop) (h0 : Pv 0 [] H) (hn : xs.length ≤ sizeLine) (hl : ∀ i ys H, i ≤ xs.length → Pv i ys H → SqL K H a xs ∧ ys.length = i)
 (hs : ∀ i x ys H, xs[i]? = some x → Pv i ys H → T x H fun y H2 => Pv (i + 1) (ys ++ [y]) H2) (hd : ∀ ys H, Pv xs.length ys H → ∀ l, H l = none → R l H ys) :
 ∃ W : Nat → Nat → List V → Hp → Prop, (∃ m, W 0 m [] H) ∧ ∀ i m ys H, W i m ys H →
   ((Itl K a).stop i H ∧ ∀ l, H l = none → R l H ys) ∨ ((Itl K a).go i H ∧ ys.length < sizeLine ∧ ∃ N : VK, (∀ y H2, N y H2 → ∃ m', m' < m ∧ W (i + 1) m' (ys ++ [y]) H2) ∧ ∀ x H', (Itl K a).yld i H x H' → T x H' N) := by
 refine ⟨fun i m ys H => m = xs.length - i ∧ i ≤ xs.length ∧ Pv i ys H, ⟨xs.length, by simp, Nat.zero_le _, h0⟩, ?_⟩
 rintro i m ys H ⟨rfl, hi, p⟩
 obtain ⟨q, hy⟩ := hl i ys H hi p
 by_cases hlt : i < xs.length
 ·refine .inr ⟨⟨xs, xs[i], q, by simp [hlt]⟩, by omega, fun y H2 => Pv (i + 1) (ys ++ [y]) H2, fun y H2 p' => ⟨xs.length - (i + 1), by omega, rfl, hlt, p'⟩, fun x H' ⟨e, y⟩ => ?_⟩
  subst e
  exact hs i x ys _ (y xs q) p
 ·have e : i = xs.length := by omega
  subst e
  exact .inl ⟨⟨xs, q, Nat.le_refl _⟩, hd ys H p⟩
theorem Qi7 : ∀ {ns : List Int} {its : List Value}, Vals (ns.map V.int) its → IntsAre its ns
 | [], _, .nil => .nil
 | n :: r, _, .cons ⟨t, e⟩ rr => by
   subst e
   exact .cons n t (Qi7 rr)
theorem Qhb : ∀ {bs : List Bool} {its : List Value}, Vals (bs.map V.bl) its → LSm.BoolsAre its bs
 | [], _, .nil => .nil
 | n :: r, _, .cons e rr => by
   cases e
   exact .cons n (Qhb rr)
section
variable {X : Cx}
theorem Qex {k : Nat} (hr : Room true k X.A) : CallR X (.builtin "sum") (fun xs H Q => ∃ (p : Addr) (ns : List Int), xs = [.ref p] ∧ SqL X.K H p (ns.map V.int) ∧ Q (.int ns.sum) H) := by
 intro pins s σ H xs us Q I r h
 obtain ⟨p, ns, rfl, hq, q⟩ := h
 obtain ⟨u, rfl, rx⟩ := vals1 r
 cases rx
 obtain ⟨its, r', pl, hz⟩ := I.list hq
 have hi := Qi7 r'
 obtain ⟨xs, hx⟩ := hi.allInts.items
 have hl' : s.heap.IsList p (intItems xs) := hx ▸ pl.isList
 refine sum_intListG (hr.hd rfl) hl' fun h' tk t' hk => ?_
 have e1 : ns = xs.toList.map (·.1) := by
  rw [← nums_intItems, ← hx]
  exact (show numsOf its.toArray.toList = ns from hi.numsOf).symm
 have e2 : preSum (numAt xs) xs.size = ns.sum := by
  rw [preSum_eq, List.take_of_length_le (by simp), e1]
 rw [e2]
 exact ⟨.int ns.sum, H, I.kept hk, ⟨t', rfl⟩, q⟩
theorem Qk4 {k : Nat} (hr : Room true k X.A) : CallR X (.builtin "any") (fun xs H Q => ∃ (p : Addr) (bs : List Bool), xs = [.ref p] ∧ SqL X.K H p (bs.map V.bl) ∧ Q (.bl (bs.any id)) H) := by
 intro pins s σ H xs us Q I r h
 obtain ⟨p, bs, rfl, hq, q⟩ := h
 obtain ⟨u, rfl, rx⟩ := vals1 r
 cases rx
 obtain ⟨its, r', pl, hz⟩ := I.list hq
 have hb := Qhb r'
 have hl := pl.isList
 have hlt : p < s.heap.objs.size := by obtain ⟨_, e, _⟩ := hl; exact Heap.lt_size e
 refine call_any_walk (wpAny_pyIter_list hl ?_)
 refine ⟨s.heap.objs.size, [s.heap.objs.size, p], [s.heap.objs.size], its.toArray.size, _, _, fun i => (bs[i]?).getD false, rfl, Walks.list (A := X.A.in1) (hr.hd rfl) _ p (Nat.ne_of_lt hlt) its.toArray,
  ⟨⟨_, Heap.get?_push_size _ rfl, rfl, rfl⟩, hl.push _⟩, fun i v s' Q' E' hP hQ => ?_, fun h' tk hk => ?_⟩
 ·obtain ⟨b, e, rfl⟩ := hb.get i v (by simpa using hP)
  simp only [e, Option.getD_some] at hQ
  exact wpAny_truthy_bool hQ
 ·have e : ((List.range its.toArray.size).any fun i => (bs[i]?).getD false) = bs.any id := by
   rw [List.size_toArray, hb.length]; exact LSm.range_any bs
  rw [e]
  exact ⟨.bl (bs.any id), H, I.kept (LSm.kept_iter hk), rfl, q⟩
end
theorem Qa5 {env : Env} {k : NameKind} : ∀ {names : List (Str × NameKind)} {y : Str}, (∀ z ∈ names, z.2 ≠ .free) → (∀ z ∈ names, z.2 ≠ k) → (names.map fun (n, k) => if (k == NameKind.free && env.scope.kind == .function && env.kindOf n == some .cell) then (n, NameKind.cell) else (n, k)).lookup y = some k → False
 | [], _, _, _, h => by simp at h
 | (n, k') :: r, y, hf, hk, h => by
   have e : (k' == NameKind.free) = false := by simpa using hf (n, k') List.mem_cons_self
   rw [List.map_cons] at h
   simp only [e, Bool.false_and, Bool.false_eq_true, if_false] at h
   rw [List.lookup_cons] at h
   cases hx : y == n with
   | true => rw [hx] at h; exact hk (n, k') List.mem_cons_self (Option.some.inj h)
   | false => rw [hx] at h; exact Qa5 (fun z hz => hf z (List.mem_cons_of_mem _ hz)) (fun z hz => hk z (List.mem_cons_of_mem _ hz)) h
theorem LcOk.plain {X : Cx} {x : Str} {scope : Scope} (hfree : ∀ y ∈ scope.names, y.2 ≠ .free) (hcell : ∀ y ∈ scope.names, y.2 ≠ .cell) (hkind : scope.kind = .function) (hnames : ∀ y ∈ scope.names, y.2 = .local → scope.names.lookup y.1 = some .local)
 (hloc : scope.names.lookup x = some .local) : LcOk X x scope [] [] where
 clos := closureFor_none hfree
 sub := fun _ _ e => nomatch e
 kind := hkind
 cell := hcell
 names := hnames
 loc := hloc
 has := fun y h => by
  rcases h with h | h
  ·exact (Qa5 hfree hcell h).elim
  ·exact (Qa5 hfree hfree h).elim
 nd := by simp
 fr := fun _ h => nomatch h
theorem Qju : bootBuiltins "sum" = some (.builtin "sum") := by decide+kernel
theorem bt_any : bootBuiltins "any" = some (.builtin "any") := by decide+kernel
theorem Qfl : bootBuiltins "sorted" = some (.builtin "sorted") := by decide+kernel
end L2
namespace L2
open PySem PySem.Spec PyProof.Rows L3
theorem Qa3 {env : Env} {k : NameKind} (hk : k = .cell ∨ k = .free) : ∀ {names : List (Str × NameKind)} {y : Str}, (∀ z ∈ names, z.2 ≠ .cell) → (names.map fun (n, k) => if (k == NameKind.free && env.scope.kind == .function && env.kindOf n == some .cell) then (n, NameKind.cell) else (n, k)).lookup y = some k → ∃ z ∈ names, z.1 = y ∧ z.2 = .free
 | [], _, _, h => by simp at h
 | (n, k') :: r, y, hc, h => by
   rw [List.map_cons] at h
   have fst : (if (k' == NameKind.free && env.scope.kind == .function && env.kindOf n == some .cell) = true then (n, NameKind.cell) else (n, k')).1 = n := by split <;> rfl
   cases hx : y == n with
   | true =>
     have e : y = n := eq_of_beq hx
     subst e
     by_cases hf : k' = .free
     ·exact ⟨(y, k'), List.mem_cons_self, rfl, hf⟩
     ·exfalso
      have e : (k' == NameKind.free) = false := by simpa using hf
      simp only [e, Bool.false_and, Bool.false_eq_true, if_false] at h
      rw [List.lookup_cons] at h
      rw [hx] at h
      have h' : k' = k := Option.some.inj h
      rcases hk with z | z
      ·exact hc (y, k') List.mem_cons_self (h'.trans z)
      ·exact hf (h'.trans z)
   | false =>
     rw [List.lookup_cons] at h
     rw [fst, hx] at h
     obtain ⟨z, m, q⟩ := Qa3 hk (fun z hz => hc z (List.mem_cons_of_mem _ hz)) h
     exact ⟨z, List.mem_cons_of_mem _ m, q⟩
theorem Qcq {cl : List (Str × Addr)} {y : Str} (h : y ∈ cl.map (·.1)) : ∃ c, cl.lookup y = some c := by
 induction cl with
 | nil => cases h
 | cons p r ih =>
   rw [List.lookup_cons]
   cases hx : y == p.1 with
   | true => exact ⟨_, rfl⟩
   | false =>
     rcases List.mem_cons.mp h with e | e
     ·rw [e, beq_self_eq_true] at hx; cases hx
     ·exact ih e
theorem Qef {cl : List (Str × Addr)} {y : Str} {c : Addr} (h : cl.lookup y = some c) : (y, c) ∈ cl := by
 induction cl with
 | nil => cases h
 | cons p r ih =>
   rw [List.lookup_cons] at h
   cases hx : y == p.1 with
   | true =>
     rw [hx] at h
     have e := eq_of_beq hx
     have e2 : p.2 = c := Option.some.inj h
     rw [show p = (y, c) by rw [e, ← e2]]
     exact List.mem_cons_self
   | false => rw [hx] at h; exact List.mem_cons_of_mem _ (ih h)
theorem LcOk.free {X : Cx} {x : Str} {scope : Scope} {cl : List (Str × Addr)} {js : List Nat} (fns : List Str) (hclos : closureFor scope X.env = pure cl) (hf : cl.map (·.1) = fns) (hsub : ∀ p ∈ cl, X.env.cells.lookup p.1 = some p.2) (hcell : ∀ y ∈ scope.names, y.2 ≠ .cell) (hkind : scope.kind = .function) (hnames : ∀ y ∈ scope.names, y.2 = .local → scope.names.lookup y.1 = some .local)
 (hloc : scope.names.lookup x = some .local) (hcov : ∀ z ∈ scope.names, z.2 = .free → z.1 ∈ fns) (hnd : (x :: js.map (fun j => X.N.getD j "")).Nodup)
 (hfr : ∀ j ∈ js, ∃ y, X.N[j]? = some y ∧ X.env.kindOf y = some .cell ∧ (relabel scope X.env).names.lookup y = some .cell ∧ y ∈ fns) : LcOk X x scope cl js where
 clos := hclos
 sub := fun y c e => hsub (y, c) (Qef e)
 kind := hkind
 cell := hcell
 names := hnames
 loc := hloc
 has := fun y h => by
  have : ∃ z ∈ scope.names, z.1 = y ∧ z.2 = .free := by
   rcases h with h | h
   ·exact Qa3 (.inl rfl) hcell h
   ·exact Qa3 (.inr rfl) hcell h
  obtain ⟨z, m, rfl, e⟩ := this
  exact Qcq (by rw [hf]; exact hcov z m e)
 nd := hnd
 fr := fun j hj => by
  obtain ⟨y, a, b, c, d⟩ := hfr j hj
  exact ⟨y, a, b, c, Qcq (by rw [hf]; exact d)⟩
end L2
namespace L2
open PySem PySem.Spec PyProof.Rows L3
def tLCIf (wi : TI) (tt : TT) (te : TE) (js : List Nat) : TE := fun σ H Q => wi σ H fun J H1 => ∃ W : Nat → Nat → List V → Hp → Prop, (∃ m, W 0 m [] H1) ∧ ∀ i m ys H, W i m ys H →
 (J.stop i H ∧ ∀ l, H l = none → Q (.ref l) (upd H l (.lst ys))) ∨ (J.go i H ∧ ys.length < sizeLine ∧ ∃ (N : VK) (S : Hp → Prop), (∀ y H2, N y H2 → ∃ m', m' < m ∧ W (i + 1) m' (ys ++ [y]) H2) ∧ (∀ H2, S H2 → ∃ m', m' < m ∧ W (i + 1) m' ys H2) ∧
  ∀ x H', J.yld i H x H' → tt (some x :: js.map (fun j => σ.getD j none)) H' fun b H2 => if b = true then te (some x :: js.map (fun j => σ.getD j none)) H2 N else S H2)
section
variable {X : Cx}
theorem Qfe {elt iter c : Expr} {x : Str} {px pos cpos : Pos} {scope : Scope} {cl : List (Str × Addr)} {wi : TI} {te : TE} {tt : TT} {js : List Nat} {use : Option (Value → Sem Unit)} {Qc : Q0} {pins : Q3} {s : Shared} {σ : St} {H : Hp} {Q : VK}
 (hc : X.calm = true) (L : LcOk X x scope cl js) (hi : PI X (.Name x px) iter wi)
 (he : ∀ C s2 H2 fp xe, PE (X.inC scope cl C s2 H2 fp (x :: js.map (fun j => X.N.getD j "")) xe) elt te)
 (ht : ∀ C s2 H2 fp xe, PT (X.inC scope cl C s2 H2 fp (x :: js.map (fun j => X.N.getD j "")) xe) c tt)
 (hs : ∀ z, foldedSetIterable iter X.env z = pure z) (I : Inv X pins σ H s) (h : tLCIf wi tt te js σ H Q)
 (fin : ∀ (D C : Addr) (H4 : Hp) (s4 : Shared) (m : Str → Option Value), s4.heap.Ns C m → FpOk X pins H4 C → (∀ h', Heap.SameBut C s4.heap h' → Inv X pins σ H4 { s4 with heap := h' }) → Q (.ref D) H4 → compPost (model X.prog X.w) X.A X.xe use Qc (.ref D) C (.ok .next) s4) :
 wpAny (model X.prog X.w) X.A (comprehension (.ListComp elt [⟨.Name x px, iter, [c], 0⟩] scope pos) scope X.env cpos (newList []) false (eval iter X.env) use) Qc X.xe s := by
 refine wpAny_comprehension_free (cl := cl) (use := use) rfl hs L.clos L.kind L.names ?_
 refine thn (hi pins s σ H _ I h) fun v s1 h1 => thn h1 fun itv s2 h2 => ?_
 obtain ⟨it, fp, tn, J, H2, e, I2, T, st2, f2, W, ⟨k0, w0⟩, turn⟩ := h2
 subst e
 refine wpAny_newObj_type (wpAny_newFunctionEnv L.cell (by intro y hy; simp at hy) (fun h₁ hns₁ hsb₁ => ?_) L.kind)
 dsimp only at hns₁ hsb₁ ⊢
 generalize hH2 : s2.heap.push { cls := .type "list", dict := none, data := .seq ([] : List Value).toArray } = Hp2 at hns₁ hsb₁ ⊢
 have hC : Hp2.objs.size = s2.heap.objs.size + 1 := by rw [← hH2, Heap.size_push]
 generalize hD0 : s2.heap.objs.size = D at hC ⊢
 generalize hC0 : Hp2.objs.size = C at hC hns₁ hsb₁ ⊢
 have hDC : D ≠ C := by omega
 have below : ∀ b, b < D → b ≠ C := fun b hb => by omega
 have old : ∀ b o, s2.heap.get? b = some o → h₁.get? b = some o := fun b o e =>
  hsb₁.extBut b o (below b (by rw [← hD0]; exact Heap.lt_size e)) (Heap.get?_push_of_some _ (hH2 ▸ Heap.get?_push_of_some _ e))
 have hacc : h₁.get? D = some { cls := .type "list", data := .seq ([] : List Value).toArray 0 } := by
  subst hD0
  exact hsb₁.extBut _ _ hDC (Heap.get?_push_of_some _ (hH2 ▸ Heap.get?_push_size _ rfl))
 have fo : ∀ b ∈ fp, ∃ o, s2.heap.get? b = some o := fun b hb => let ⟨o, e, _⟩ := T.obj _ _ st2 b hb; ⟨o, e⟩
 have flt : ∀ b ∈ fp, b < D := fun b hb => let ⟨o, e⟩ := fo b hb; by rw [← hD0]; exact Heap.lt_size e
 have st1 : tn 0 h₁ := T.keep _ _ _ st2 fun b hb o e => old b o e
 let R := compPost (model X.prog X.w) X.A X.xe use Qc (.ref D) C
 let xe := notedBy (model X.prog X.w) X.A (compEnvC scope cl C X.env) fun e s' => R (.error e) s'
 let X' := X.inC scope cl C s2 H2 fp (x :: js.map (fun j => X.N.getD j "")) xe
 have I0 : ∀ {t' : Nat}, Inv X' [(D, _)] (none :: js.map (fun j => σ.getD j none)) H2 { s2 with heap := h₁, toks := t' } := fun {t'} =>
  Inv.inC L I2 f2 fo (by omega) (by omega) hDC old hns₁ hacc (fun v z => by cases z)
 have fpk : ∀ {pD : Q3} {H' : Hp}, (∀ p ∈ pD, p.1 = D) → (∀ b ∈ fp, H' b = none) → ∀ b ∈ fp, FpOk X' pD H' b := fun {pD H'} hp hn b hb => by
  refine ⟨hn b hb, below b (flt b hb), fun z => ?_, .inl hb, fun y c e => (f2 b hb).2.2.2.2.1 y c (L.sub y c e), fun p hp' z => ?_⟩
  ·rcases List.mem_cons.mp (I2.stkSub b z) with e | e
   ·exact (f2 b hb).2.1 e
   ·exact (f2 b hb).2.2.1 e
  ·have q := hp p (by simpa [X', Cx.inC] using hp')
   have := flt b hb
   rw [← z, q] at this
   exact Nat.lt_irrefl _ this
 have loop : ∀ s3 : Shared, (∃ k i ys H' its n σ0, Inv X' [(D, { cls := .type "list", data := .seq (its : List Value).toArray n })] (σ0 :: js.map (fun j => σ.getD j none)) H' s3 ∧ tn i s3.heap ∧ (∀ b ∈ fp, H' b = none) ∧ W i k ys H' ∧ Vals ys its ∧ ys.length ≤ sizeLine) →
  codeAny (model X.prog X.w) X.A (.compLoop (.ListComp elt [⟨.Name x px, iter, [c], 0⟩] scope pos) 0 (.ref it) (.ref D) (compEnvC scope cl C X.env)) R s3 := by
  rintro s3 ⟨k, hk⟩
  refine codeAny_loop rfl (fun k s3 => ∃ i ys H' its n σ0, Inv X' [(D, { cls := .type "list", data := .seq (its : List Value).toArray n })] (σ0 :: js.map (fun j => σ.getD j none)) H' s3 ∧ tn i s3.heap ∧ (∀ b ∈ fp, H' b = none) ∧ W i k ys H' ∧ Vals ys its ∧ ys.length ≤ sizeLine) (fun k s3 hI => ?_) k hk
  obtain ⟨i, ys, H3, its, n, σ0, I3, st3, fr3, w3, vy, hz⟩ := hI
  show wpAny _ _ ((compTurn (.ListComp elt [⟨.Name x px, iter, [c], 0⟩] scope pos) 0 (.ref it) (.ref D) (compEnvC scope cl C X.env)).onRaise (fun x => do noteFrame x (compEnvC scope cl C X.env); theTreesLotGoes x)) _ _ s3
  refine wpAny_noted ?_
  rw [compTurn_list]
  have hpD : ∀ {o : Obj}, ∀ p ∈ [(D, o)], p.1 = D := fun p hp => by rw [List.mem_singleton.mp hp]
  refine wpAny_bind (wpAny_standAt (wpAny_bind ?_))
  rcases turn i k ys H3 w3 with ⟨stop, qn⟩ | ⟨go, hlen, N, S, hN, hS, step⟩
  ·refine thn (T.done X' rfl rfl rfl hc i _ s3 _ H3 xe I3 (fpk hpD fr3) st3 stop) fun r s4 ⟨hr, I4⟩ => ?_
   subst hr
   refine wpAny_pure ?_
   obtain ⟨m, hn, _⟩ := I4.loc
   obtain ⟨eD, nD, _⟩ := I4.pin (D, _) (List.mem_append_right _ (List.mem_singleton.mpr rfl))
   have fC : FpOk X pins (upd H3 D (.lst ys)) C := I2.fpOk (by omega) (by
    rw [Qah (Ne.symm hDC)]
    exact I4.free)
   refine fin D C (upd H3 D (.lst ys)) s4 m hn fC (fun h' sb => ?_) (qn D nD)
   obtain ⟨hh, g, d, t, os'⟩ := s4
   obtain rfl : os' = s2.os := I4.os
   have kp : ∀ b o, b ≠ C → hh.get? b = some o → h'.get? b = some o := fun b o hb e => (sb.2 b hb).trans e
   have lt2 : ∀ b o, s2.heap.get? b = some o → b ≠ C ∧ b ≠ D := fun b o e => by
    have q : b < D := by rw [← hD0]; exact Heap.lt_size e
    exact ⟨below b q, Nat.ne_of_lt q⟩
   have B : Un (frs X.stack) fp H2 H3 s2.heap hh := I4.base
   have hDn : H3 D = none := nD
   have I5 : Inv X pins σ (upd H3 D (.lst ys)) { s2 with heap := h', gens := g, drawn := d, toks := t } := by
    refine I2.call (h' := h') (g' := g) (d' := d) (t' := t) (ch := fp) ⟨?_, ?_, ?_, ?_, ?_, ?_, ?_⟩ ?_ I4.bare ?_
    ·exact fun b o e n hb hx => kp b o (lt2 b o e).1 (B.keep b o e n hb hx)
    ·intro b o e n hb hx
     obtain ⟨sl, q⟩ := B.slot b o e n hb hx
     exact ⟨sl, kp b _ (lt2 b o e).1 q⟩
    ·intro b o e n hx
     rw [Qah (lt2 b o e).2]
     exact B.free b o e n hx
    ·intro b o e hx
     obtain ⟨o', q⟩ := B.there b o e hx
     exact ⟨o', kp b o' (lt2 b o e).1 q⟩
    ·intro b xs e
     have q := B.tups b xs e
     rw [Qah (Qai q hDn)]
     exact q
    ·intro b o u e
     have q := B.frzs b o u e
     rw [Qah (Qai q hDn)]
     exact q
    ·intro b ps e
     obtain ⟨more, q⟩ := B.tbls b ps e
     exact ⟨more, by rw [Qah (Qai q hDn)]; exact q⟩
    ·intro b u e
     by_cases hb : b = D
     ·subst hb
      rw [Qab] at e
      cases e
      exact ⟨hz, its, n, vy, kp _ _ hDC eD⟩
     ·rw [Qah hb] at e
      have nC : ∀ c o, H3 c = some o → c ≠ C := fun c o q => Qai q I4.free
      refine (I4.hok b u e).stay (fun c v hc' q => kp c v ?_ q) (fun c q => by rw [Qah (Qai q hDn)]; exact q) fun c xs q => by rw [Qah (Qai q hDn)]; exact q
      rcases hc' with z | z
      ·rw [z]; exact nC b u e
      ·exact nC c _ z
    ·intro b hb
     obtain ⟨_, f1, _, f3, f4, f5⟩ := f2 b hb
     exact ⟨f3, f1, f4, f5⟩
   exact I5
  ·refine thn (T.item X' rfl rfl rfl hc i _ s3 _ H3 xe I3 (fpk hpD fr3) st3 go) fun r s4 ⟨u, hr, h4⟩ => ?_
   subst hr
   refine wpAny_bind (thn h4 fun _ s5 ⟨xv, H5, I5, r5, y5, st5, fr5⟩ => ?_)
   have I5' := I5.pinned (fpk hpD fr5) (T.obj _ _ st5)
   refine wpAny_bind (thn (Qar (X := X') (i := 0) L.nd rfl (Or.inl (lookup_relabel_local L.loc)) (Or.inr (lookup_relabel_local L.loc)) _ s5 _ H5 xv u (fun σ6 H6 => σ6 = some xv :: js.map (fun j => σ.getD j none) ∧ H6 = H5) I5' r5 ⟨rfl, rfl⟩) fun _ s6 ⟨σ6, H6, I6, e6, e6'⟩ => ?_)
   subst e6 e6'
   refine wpAny_bind (thn (wpAny_tests_one (ht C s2 H2 fp xe _ s6 _ _ _ I6 (step xv _ y5))) fun ok s6b ⟨H6b, I6b, q6b⟩ => ?_)
   cases ok with
   | false =>
     have q6b : S H6b := q6b
     obtain ⟨m', hm, w7⟩ := hS H6b q6b
     have pinf : ∀ b ∈ fp, ∀ o, s5.heap.get? b = some o → s6b.heap.get? b = some o ∧ H6b b = none := fun b hb o e => by
      have z := I6b.pin (b, o) (List.mem_append_right _ (List.mem_append_right _ (Qbs hb e)))
      exact ⟨z.1, z.2.1⟩
     refine wpAny_pure ⟨rfl, m', hm, i + 1, ys, H6b, its, n, some xv, I6b.unpinned, T.keep _ _ _ st5 fun b hb o e => (pinf b hb o e).1, fun b hb => ?_, w7, vy, hz⟩
     obtain ⟨o, e, _⟩ := T.obj _ _ st5 b hb
     exact (pinf b hb o e).2
   | true =>
     have q6b : te (some xv :: js.map (fun j => σ.getD j none)) H6b N := q6b
     refine wpAny_bind (wpAny_bind (thn (he C s2 H2 fp xe _ s6b _ _ _ I6b q6b) fun y s7 ⟨yv, H7, I7, ry, n7⟩ => ?_))
     obtain ⟨m', hm, w7⟩ := hN yv H7 n7
     have I7' := I7.unpinned
     obtain ⟨eD, nD, neC, nfs, _⟩ := I7'.pin (D, _) (List.mem_append_right _ (List.mem_singleton.mpr rfl))
     have eD' : s7.heap.get? D = some { cls := .type "list", data := .seq its.toArray n } := eD
     have lv := vy.length
     refine wpAny_bind (call_meets F.slot_list_append ⟨_, eD', rfl⟩ F.entry_list_append (F.args_list_append_2 _ _) (PySem.list_append D its.toArray n y (by rw [List.size_toArray]; omega)) ⟨eD', ?_⟩)
     refine wpAny_pure (wpAny_pure ⟨rfl, m', hm, i + 1, ys ++ [yv], H7, its ++ [y], ?_⟩)
     have q := PySem.IsL.update eD' (fun a : Array Value => a.push y)
     have I8 : Inv X' [] (some xv :: js.map (fun j => σ.getD j none)) H7 { s7 with heap := s7.heap.update D (Obj.mapSeq (fun a : Array Value => a.push y)) } :=
      (I7'.Qcl (pins' := []) (fun p hp => nomatch hp)).turned (t' := s7.toks) (it := D) (fun b o hb e => (Heap.get?_update_other s7.heap _ (Ne.symm hb)).trans e) nD neC (.inr (by show s2.heap.objs.size ≤ D; omega))
       (fun z c e w => by
        obtain ⟨v', o', ho', _⟩ := I2.cell z c (L.sub z c e)
        have := Heap.lt_size ho'
        rw [w, hD0] at this
        exact Nat.lt_irrefl _ this) (fun p hp => nomatch hp)
     have pinf : ∀ b ∈ fp, ∀ o, s5.heap.get? b = some o → s7.heap.get? b = some o ∧ H7 b = none := fun b hb o e => by
      have z := I7.pin (b, o) (List.mem_append_right _ (List.mem_append_right _ (Qbs hb e)))
      exact ⟨z.1, z.2.1⟩
     obtain ⟨n', q'⟩ : ∃ n', (s7.heap.update D (Obj.mapSeq (fun a : Array Value => a.push y))).get? D = some { cls := .type "list", data := .seq (its ++ [y]).toArray n' } := by
      rw [show (its ++ [y]).toArray = its.toArray.push y by simp]
      exact ⟨_, q⟩
     refine ⟨n', some xv, I8.Qcl fun p hp => ?_, ?_, fun b hb => ?_, w7, vy.append (.cons ry .nil), by rw [List.length_append, List.length_singleton]; omega⟩
     ·rw [List.mem_singleton.mp hp]
      exact ⟨q', nD, neC, nfs, fun v z => by cases z⟩
     ·refine T.keep _ _ _ st5 fun b hb o e => ?_
      have hb' : D ≠ b := fun z => by
       have := flt b hb
       rw [← z] at this
       exact Nat.lt_irrefl _ this
      exact (Heap.get?_update_other s7.heap _ hb').trans (pinf b hb o e).1
     ·obtain ⟨o, e, _⟩ := T.obj _ _ st5 b hb
      exact (pinf b hb o e).2
 have start : ∀ {t' : Nat}, ∃ k i ys H' its n σ0, Inv X' [(D, { cls := .type "list", data := .seq (its : List Value).toArray n })] (σ0 :: js.map (fun j => σ.getD j none)) H' { s2 with heap := h₁, toks := t' } ∧ tn i h₁ ∧ (∀ b ∈ fp, H' b = none) ∧ W i k ys H' ∧ Vals ys its ∧ ys.length ≤ sizeLine := fun {t'} =>
  ⟨k0, 0, [], H2, [], 0, none, I0, st1, fun b hb => (f2 b hb).1, w0, .nil, Nat.zero_le _⟩
 exact codeAny_compStart_list (loop _ start) (T.self X.A 0 _ _ _ st1 (loop _ start))
theorem Qcz {elt iter c : Expr} {x : Str} {px pos : Pos} {scope : Scope} {cl : List (Str × Addr)} {wi : TI} {te : TE} {tt : TT} (js : List Nat) (hc : X.calm = true) (L : LcOk X x scope cl js) (hi : PI X (.Name x px) iter wi)
 (ht : ∀ C s2 H2 fp xe, PT (X.inC scope cl C s2 H2 fp (x :: js.map (fun j => X.N.getD j "")) xe) c tt)
 (he : ∀ C s2 H2 fp xe, PE (X.inC scope cl C s2 H2 fp (x :: js.map (fun j => X.N.getD j "")) xe) elt te)
 (hs : ∀ z, foldedSetIterable iter X.env z = pure z := by intro _; rfl) :
 PE X (.ListComp elt [⟨.Name x px, iter, [c], 0⟩] scope pos) (tLCIf wi tt te js) := by
 intro pins s σ H Q I h
 rw [eval_ListComp]
 exact Qfe (use := none) hc L hi he ht hs I h fun D C H4 s4 m hn _ I4 q => ⟨m, hn, fun h' sb => ⟨.ref D, H4, I4 h' sb, rfl, q⟩⟩
theorem Qcf {i : Nat} {t : Str} {elt iter c : Expr} {x : Str} {px pos cpos pos' : Pos} {scope : Scope} {cl : List (Str × Addr)} {wi : TI} {te : TE} {tt : TT} (js : List Nat) (hN : X.N.Nodup) (hi' : X.N[i]? = some t) (hx : Loc X.env.scope t) (hc : X.calm = true) (L : LcOk X x scope cl js) (hi : PI X (.Name x px) iter wi)
 (ht : ∀ C s2 H2 fp xe, PT (X.inC scope cl C s2 H2 fp (x :: js.map (fun j => X.N.getD j "")) xe) c tt)
 (he : ∀ C s2 H2 fp xe, PE (X.inC scope cl C s2 H2 fp (x :: js.map (fun j => X.N.getD j "")) xe) elt te)
 (hs : ∀ z, foldedSetIterable iter X.env z = pure z := by intro _; rfl) (hsw : swapsWith (.ListComp elt [⟨.Name x px, iter, [c], 0⟩] scope cpos) (some (.Name t pos')) pos.line X.env = pure true := by rfl)
 (hf : X.fn t = true ∨ X.env.scope.names.lookup t = some .local := by first | exact .inl rfl | exact .inr rfl | assumption) :
 PS X (.Assign [.Name t pos'] (.ListComp elt [⟨.Name x px, iter, [c], 0⟩] scope cpos) pos) (tAsg (tLCIf wi tt te js) (gName i)) := by
 intro pins s σ H D I h
 rw [exec_Assign_Name_used _ _ _ _ hsw]
 refine wpAny_bind (wpAny_standAt (wpAny_bind ?_))
 show wpAny _ X.A (do let _ ← comprehension (.ListComp elt [⟨.Name x px, iter, [c], 0⟩] scope cpos) scope X.env _ (newList []) false (eval iter X.env) (some (assign (.Name t pos') X.env))) _ _ s
 refine wpAny_bind (wpAny_mono (Qfe (use := some (assign (.Name t pos') X.env)) (Qc := fun _ s' => SP X pins D .next s') hc L hi he ht hs I h fun Dl C H4 s4 m hn fC I4 q => ?_) (fun _ s' hq => wpAny_pure (wpAny_pure hq)) fun _ _ e => e)
 show wpAny (model X.prog X.w) X.A (assign (.Name t pos') X.env (.ref Dl)) _ X.xe s4
 obtain ⟨oC, es, ep, hoC, hdC, rC⟩ := id hn
 have I4' : Inv X (pins ++ pinsAt [C] s4.heap) σ H4 s4 := (I4 s4.heap (.refl ..)).pinned (fun b hb => by rw [List.mem_singleton.mp hb]; exact fC) fun b hb => by
  rw [List.mem_singleton.mp hb]
  exact ⟨oC, hoC, fun v z => by rw [hdC] at z; cases z⟩
 refine thn (Qar hN hi' hx hf _ s4 σ H4 (.ref Dl) (.ref Dl) D.nx I4' rfl q) fun _ s5 ⟨σ5, H5, I5, q5⟩ => ?_
 obtain ⟨e5, n5, _⟩ := I5.pin (C, oC) (List.mem_append_right _ (List.mem_append_right _ (Qbs (List.mem_singleton.mpr rfl) hoC)))
 refine ⟨m, ⟨oC, es, ep, e5, hdC, rC⟩, fun h' sb => ⟨σ5, H5, ?_, q5⟩⟩
 obtain ⟨_, f1, _, f3, f4, f5⟩ := fC
 exact I5.unpinned.turned (t' := s5.toks) (it := C) (fun b o hb e => (sb.2 b hb).trans e) n5 f1 f3 f4 f5
end
end L2
namespace L2
open PySem PySem.Spec PyProof.Rows L3
section
variable {prog : Program} {w : World} {A : Around} {E : Q0} {s : Shared}
end
section
variable {X : Cx}
end
end L2
namespace L2
open PySem PySem.Spec PyProof.Rows L3
section
variable {X : Cx} {pins : Q3} {σ : St} {H : Hp} {s : Shared}
end
section
variable {X : Cx}
end
end L2
namespace L2
open PySem PySem.Spec PyProof.Rows L3
theorem Qa7 {X : Cx} {scope : Scope} {cl : List (Str × Addr)} {C : Addr} {s2 : Shared} {H2 : Hp} {fp : List Addr} {N' : List Str} {xe : Q0} : IxR (X.inC scope cl C s2 H2 fp N' xe) (rIx X.K) := Qav (X := X.inC scope cl C s2 H2 fp N' xe)
end L2
namespace L2
open PySem PySem.Spec PyProof.Rows L3
section
variable {X : Cx}
end
end L2
namespace L2
open PySem PySem.Spec PyProof.Rows L3
theorem Qdr {lo : Int} {n : Nat} {T : V → Hp → VK → Prop} {R : Addr → Hp → List V → Prop} {H : Hp} (Pv : Nat → List V → Hp → Prop) (h0 : Pv 0 [] H) (hn : n ≤ sizeLine) (hl : ∀ i ys H, i ≤ n → Pv i ys H → ys.length = i)
 (hs : ∀ i ys H, i < n → Pv i ys H → T (.int (lo + i)) H fun y H2 => Pv (i + 1) (ys ++ [y]) H2) (hd : ∀ ys H, Pv n ys H → ∀ l, H l = none → R l H ys) :
 ∃ W : Nat → Nat → List V → Hp → Prop, (∃ m, W 0 m [] H) ∧ ∀ i m ys H, W i m ys H →
   ((Itr lo n).stop i H ∧ ∀ l, H l = none → R l H ys) ∨ ((Itr lo n).go i H ∧ ys.length < sizeLine ∧ ∃ N : VK, (∀ y H2, N y H2 → ∃ m', m' < m ∧ W (i + 1) m' (ys ++ [y]) H2) ∧ ∀ x H', (Itr lo n).yld i H x H' → T x H' N) := by
 refine ⟨fun i m ys H => m = n - i ∧ i ≤ n ∧ Pv i ys H, ⟨n, by simp, Nat.zero_le _, h0⟩, ?_⟩
 rintro i m ys H ⟨rfl, hi, p⟩
 have hy := hl i ys H hi p
 by_cases hlt : i < n
 ·refine .inr ⟨hlt, by omega, fun y H2 => Pv (i + 1) (ys ++ [y]) H2, fun y H2 p' => ⟨n - (i + 1), by omega, rfl, hlt, p'⟩, fun x H' ⟨e, y⟩ => ?_⟩
  subst e y
  exact hs i ys _ hlt p
 ·have e : i = n := by omega
  subst e
  exact .inl ⟨Nat.le_refl _, hd ys H p⟩
end L2
namespace L2
open PySem PySem.Spec PyProof.Rows L3
section
variable {X : Cx}
def eqT (K : Q4) (H : Hp) (x y : V) : Prop := (x = y ∧ eqPl x = true) ∨ ∃ a b xs, x = .ref a ∧ y = .ref b ∧ SqT K H a xs ∧ SqT K H b xs ∧ ∀ z ∈ xs, eqPl z = true
theorem Inv.eqT {pins : Q3} {σ : St} {H : Hp} {s : Shared} {x y : V} {v u : Value} {A : Around} (I : Inv X pins σ H s) (hu : A.units < cLine) (e : eqT X.K H x y) (rx : RelV x v) (ry : RelV y u) : SeqAt.EqAt A s v u true := by
 rcases e with ⟨rfl, hp⟩ | ⟨a, b, xs, rfl, rfl, ha, hb, hp⟩
 ·exact Qc9 hp rx ry
 ·cases rx
  cases ry
  by_cases hab : a = b
  ·subst hab
   exact SeqAt.EqAt.same _
  obtain ⟨its, r, pl, hz⟩ := I.tuple ha
  obtain ⟨its2, r2, pl2, hz2⟩ := I.tuple hb
  have l1 := r.length
  have l2 := r2.length
  have h := SeqAt.RcAt.tuples (A := A) (e := fun _ => true) (show s.heap.IsTuple a its.toArray from pl) (show s.heap.IsTuple b its2.toArray from pl2) hu (fun j h1 h2 => by
   simp only [List.size_toArray] at h1 h2
   obtain ⟨x, e, rx⟩ := Qbj r j h1
   obtain ⟨x2, e2, rx2⟩ := Qbj r2 j h2
   rw [e] at e2
   cases e2
   simp only [List.getElem_toArray]
   exact Qc9 (hp x (List.mem_of_getElem? e)) rx rx2)
  have hb : ((List.range (min its.toArray.size its2.toArray.size)).all (fun _ => true) && its.toArray.size == its2.toArray.size) = true := by
   simp only [List.size_toArray]
   rw [← l1, ← l2]
   simp
  rw [hb] at h
  exact SeqAt.EqAt.of_refs hab h
def EqLs (K : Q4) (H : Hp) (xs ys : List V) : Prop := xs.length = ys.length ∧ ∀ (j : Nat) x y, xs[j]? = some x → ys[j]? = some y → eqT K H x y
theorem Qil {cm : Bool} {k : Nat} (hr : Room cm k X.A) : OpR X (compareOp .Eq) (fun x y H Q => ∃ a b xs ys, x = .ref a ∧ y = .ref b ∧ SqL X.K H a xs ∧ SqL X.K H b ys ∧ EqLs X.K H xs ys ∧ Q (.bl true) H) := by
 intro pins s σ H x y v u Q I rx ry h
 obtain ⟨a, b, xs, ys, rfl, rfl, ha, hb, ⟨hl, he⟩, q⟩ := h
 cases rx
 cases ry
 obtain ⟨its, r, pl, hz⟩ := I.list ha
 obtain ⟨its2, r2, pl2, hz2⟩ := I.list hb
 have l1 := r.length
 have l2 := r2.length
 have hu : X.A.units < cLine := by have := hr.un; omega
 have hu1 : X.A.in1.units < cLine := by have := hr.un; show X.A.units + 1 < cLine; omega
 refine SeqAt.eq_listAt (e := fun _ => true) pl.isList pl2.isList (by simp only [List.size_toArray]; omega) hu (fun j h1 h2 => ?_) ?_
 ·simp only [List.size_toArray] at h1 h2
  obtain ⟨x, e, rx⟩ := Qbj r j h1
  obtain ⟨x2, e2, rx2⟩ := Qbj r2 j h2
  simp only [List.getElem_toArray]
  exact I.eqT hu1 (he j x x2 e e2) rx rx2
 ·rw [show ((List.range its.toArray.size).all fun _ => true) = true by simp]
  exact ⟨.bl true, H, I, rfl, q⟩
theorem Qij {cm : Bool} {k : Nat} (hr : Room cm k X.A) : OpR X (compareOp .NotEq) (fun x y H Q => ∃ a b xs ys, x = .ref a ∧ y = .ref b ∧ SqL X.K H a xs ∧ SqL X.K H b ys ∧ EqLs X.K H xs ys ∧ Q (.bl false) H) := by
 intro pins s σ H x y v u Q I rx ry h
 obtain ⟨a, b, xs, ys, rfl, rfl, ha, hb, ⟨hl, he⟩, q⟩ := h
 cases rx
 cases ry
 obtain ⟨its, r, pl, hz⟩ := I.list ha
 obtain ⟨its2, r2, pl2, hz2⟩ := I.list hb
 have l1 := r.length
 have l2 := r2.length
 have hu : X.A.units < cLine := by have := hr.un; omega
 have hu1 : X.A.in1.units < cLine := by have := hr.un; show X.A.units + 1 < cLine; omega
 refine SeqAt.RcNeAt.lists (e := fun _ => true) pl.isList pl2.isList (by simp only [List.size_toArray]; omega) hu (fun j h1 h2 => ?_) _ _ _ _ ?_
 ·simp only [List.size_toArray] at h1 h2
  obtain ⟨x, e, rx⟩ := Qbj r j h1
  obtain ⟨x2, e2, rx2⟩ := Qbj r2 j h2
  simp only [List.getElem_toArray]
  exact I.eqT hu1 (he j x x2 e e2) rx rx2
 ·rw [show ((List.range its.toArray.size).all fun _ => true) = true by simp]
  exact ⟨.bl false, H, I, rfl, q⟩
theorem EqLs.refl {K : Q4} {H : Hp} {xs : List V} (h : ∀ z ∈ xs, eqPl z = true) : EqLs K H xs xs := ⟨rfl, fun j x y e1 e2 => by
 rw [e1] at e2
 cases e2
 exact .inl ⟨rfl, h x (List.mem_of_getElem? e1)⟩⟩
def rInsert : V → List V → Hp → VK → Prop := fun x vs H Q => ∃ (l : Addr) (xs : List V) (k : Nat) (y : V), x = .ref l ∧ vs = [.int k, y] ∧ H l = some (.lst xs) ∧ k ≤ xs.length ∧ xs.length < 10 ^ 6 ∧ Q .non (upd H l (.lst (xs.take k ++ y :: xs.drop k)))
theorem Qc6 : MtM X "list.insert" rInsert := by
 intro pins s σ H x vs v us Q I rx rv h
 obtain ⟨l, xs, k, y, rfl, rfl, hH, hk, hz, q⟩ := h
 cases rx
 cases rv with
 | cons r1 rr =>
   obtain ⟨u, rfl, ru⟩ := Vals.one rr
   obtain ⟨t, rfl⟩ := r1
   obtain ⟨z, its, n, r, hl, e⟩ := I.lstM hH
   have hline : 10 ^ 6 ≤ sizeLine := by decide
   obtain ⟨x, hx⟩ : ∃ x : Int, x = (k : Int) := ⟨_, rfl⟩
   rw [← hx]
   have hfit : ¬ (!Builtin.List.listFitsIndex x) = true := by
    unfold Builtin.List.listFitsIndex
    rw [decide_eq_true (by omega : -(2 ^ 63 : Int) ≤ x), decide_eq_true (by omega : x < 2 ^ 63)]
    decide
   generalize hits : its.toArray = arr at e
   have hsz : arr.size ≤ sizeLine := by rw [← hits, List.size_toArray]; omega
   have M := PySem.AutoListH.list_insert_list_int_val_1 l arr n x t u hfit hsz
   refine call_meets F.slot_list_insert ⟨_, e, rfl⟩ F.entry_list_insert (F.args_list_insert_3 _ _ _) M ⟨e, ?_⟩
   subst hits
   refine ⟨.non, _, I.lset (its' := its.take k ++ u :: its.drop k) hH e ?_ ?_ ?_, rfl, q⟩
   ·have h1 : (if x < 0 then (x + ((its.toArray.size : Nat) : Int)).toNat else min x.toNat its.toArray.size) = k := by
     rw [if_neg (by omega), List.size_toArray]
     omega
    show (its.toArray.extract 0 (if x < 0 then (x + ((its.toArray.size : Nat) : Int)).toNat else min x.toNat its.toArray.size)).push u ++ its.toArray.extract (if x < 0 then (x + ((its.toArray.size : Nat) : Int)).toNat else min x.toNat its.toArray.size) = _
    rw [h1]
    apply Array.ext'
    simp
    exact List.take_of_length_le (by rw [List.length_drop]; exact Nat.le_refl _)
   ·exact (r.take k).append (.cons ru (r.drop k))
   ·rw [List.length_append, List.length_take, List.length_cons, List.length_drop]
    omega
def rJoin (K : Q4) : V → List V → Hp → VK → Prop := fun x vs H Q => ∃ (z : Str) (p : Addr) (zs : List Str), x = .str z ∧ vs = [.ref p] ∧ SqL K H p (zs.map V.str) ∧ JoinOk z zs = true ∧ Q (.str (Txt.join z zs)) H
theorem Qh1 : ∀ {zs : List Str} {its : List Value}, Vals (zs.map V.str) its → ∃ l : List (Str × Tok), its = strValues l ∧ l.map (·.1) = zs
 | [], _, .nil => ⟨[], rfl, rfl⟩
 | z :: zs, _, .cons (b := v) r t => by
   obtain ⟨l, rfl, e⟩ := Qh1 t
   obtain ⟨tk, rfl⟩ := r
   exact ⟨(z, tk) :: l, rfl, by rw [List.map_cons, e]⟩
theorem Qit : MtR X "str.join" (rJoin X.K) := by
 intro pins s σ H x vs v us Q I rx rv h
 obtain ⟨z, p, zs, rfl, rfl, hS, ok, q⟩ := h
 obtain ⟨t, rfl⟩ := rx
 obtain ⟨u, rfl, ru⟩ := rv.one
 cases ru
 obtain ⟨its, r, pl, hz⟩ := I.list hS
 obtain ⟨l, rfl, e⟩ := Qh1 r
 exact SC.join (l := l) pl.isList e ok fun t' k => ⟨.str _, H, I.kept (t' := k) fun _ _ e => e, ⟨t', rfl⟩, q⟩
end
end L2
namespace L2
open PySem PySem.Spec PyProof.Rows L3
def tLCT (wi : TI) (g : TG) (te : TE) (n : Nat) (js : List Nat) : TE := fun σ H Q => wi σ H fun J H1 => ∃ W : Nat → Nat → List V → Hp → Prop, (∃ m, W 0 m [] H1) ∧ ∀ i m ys H, W i m ys H →
 (J.stop i H ∧ ∀ l, H l = none → Q (.ref l) (upd H l (.lst ys))) ∨ (J.go i H ∧ ys.length < sizeLine ∧ ∃ N : VK, (∀ y H2, N y H2 → ∃ m', m' < m ∧ W (i + 1) m' (ys ++ [y]) H2) ∧ ∀ x H', J.yld i H x H' → ∀ σ0 : St, σ0.length = n → g x (σ0 ++ js.map (fun j => σ.getD j none)) H' fun σ6 H6 => ∃ σ1 : St, σ1.length = n ∧ σ6 = σ1 ++ js.map (fun j => σ.getD j none) ∧ te σ6 H6 N)
section
variable {X : Cx}
structure LcOkT (X : Cx) (xs : List Str) (scope : Scope) (cl : List (Str × Addr)) (js : List Nat) : Prop where
 clos : closureFor scope X.env = pure cl
 sub : ∀ y c, cl.lookup y = some c → X.env.cells.lookup y = some c
 kind : scope.kind = .function
 cell : ∀ y ∈ scope.names, y.2 ≠ .cell
 names : ∀ y ∈ scope.names, y.2 = .local → scope.names.lookup y.1 = some .local
 loc : ∀ x ∈ xs, scope.names.lookup x = some .local
 has : ∀ y, (((relabel scope X.env).names.lookup y = some .cell) ∨ ((relabel scope X.env).names.lookup y = some .free)) → ∃ c, cl.lookup y = some c
 nd : (xs ++ js.map (fun j => X.N.getD j "")).Nodup
 fr : ∀ j ∈ js, ∃ y, X.N[j]? = some y ∧ X.env.kindOf y = some .cell ∧ (relabel scope X.env).names.lookup y = some .cell ∧ ∃ c, cl.lookup y = some c
theorem Inv.inCT {xs : List Str} {scope : Scope} {cl : List (Str × Addr)} {js : List Nat} {pins : Q3} {σ : St} {H2 : Hp} {s2 : Shared} {fp : List Addr} {C D : Addr} {h1 : Heap} {xe : Q0} {oD : Obj} {m0 : Str → Option Value}
 (L : LcOkT X xs scope cl js) (I2 : Inv X pins σ H2 s2) (f2 : ∀ b ∈ fp, FpOk X pins H2 b) (fo : ∀ b ∈ fp, ∃ o, s2.heap.get? b = some o) (hC : s2.heap.objs.size ≤ C) (hD : s2.heap.objs.size ≤ D) (hDC : D ≠ C)
 (old : ∀ b o, s2.heap.get? b = some o → h1.get? b = some o) (hns : h1.Ns C m0) (hoD : h1.get? D = some oD) (hdD : ∀ v, oD.data ≠ .cell v) {t' : Nat} :
 Inv (X.inC scope cl C s2 H2 fp (xs ++ js.map (fun j => X.N.getD j "")) xe) [(D, oD)] (xs.map (fun _ => none) ++ js.map (fun j => σ.getD j none)) H2 { s2 with heap := h1, toks := t' } where
 ok := {
  mod := I2.ok.mod
  kind := L.kind
  glob := I2.ok.glob
  blt := I2.ok.blt
  above := hC
  inj := fun a b c e1 e2 => I2.ok.inj a b c (L.sub a c e1) (L.sub b c e2)
  has := fun y hy => L.has y hy
  cab := fun _ _ z => nomatch z
  hd := I2.ok.hd
  frames := I2.ok.frames
  stk := .inl rfl
  exf := fun b hb => by
   obtain ⟨o, e⟩ := fo b hb
   refine ⟨Nat.ne_of_lt (Nat.lt_of_lt_of_le (Heap.lt_size e) hC), fun y c e' => ?_⟩
   exact (f2 b hb).2.2.2.2.1 y c (L.sub y c e')
  bs := fun b o e => I2.bs b o e
  bsz := Nat.le_trans I2.ok.bsz I2.sz
  noex := fun b o e hb => by
   rcases (f2 b hb).2.2.2.1 with z | z
   ·exact I2.ok.noex b o e z
   ·exact absurd (Nat.lt_of_lt_of_le (Heap.lt_size e) (Nat.le_trans I2.ok.bsz z)) (Nat.lt_irrefl _)
  exfs := fun b hb z => by
   rcases List.mem_cons.mp (I2.stkSub b z) with e | e
   ·exact (f2 b hb).2.1 e
   ·exact (f2 b hb).2.2.1 e
  funs := I2.stack
  frf := I2.stkFree }
 os := rfl
 bare := I2.bare
 base := Un.kept old
 loc := by
  refine ⟨m0, hns, fun i y v e1 e2 e3 => ?_⟩
  have hik : ¬ i < xs.length := fun z => by
   have e2' : (xs.map (fun _ => (none : Option V)) ++ js.map (fun j => σ.getD j none))[i]? = some (some v) := e2
   rw [List.getElem?_append_left (by rw [List.length_map]; exact z), List.getElem?_map] at e2'
   rw [List.getElem?_eq_getElem z] at e2'
   cases e2'
  have hsplit : ∃ k, i = xs.length + k := ⟨i - xs.length, by omega⟩
  obtain ⟨k, rfl⟩ := hsplit
  ·have e1' : (js.map (fun j => X.N.getD j ""))[k]? = some y := by
    have e1' : (xs ++ js.map (fun j => X.N.getD j ""))[xs.length + k]? = some y := e1
    rw [List.getElem?_append_right (by omega)] at e1'
    simpa using e1'
   have e2' : (js.map (fun j => σ.getD j none))[k]? = some (some v) := by
    have e2' : (xs.map (fun _ => (none : Option V)) ++ js.map (fun j => σ.getD j none))[xs.length + k]? = some (some v) := e2
    rw [List.getElem?_append_right (by rw [List.length_map]; omega)] at e2'
    simpa using e2'
   rw [List.getElem?_map] at e1' e2'
   cases hj : js[k]? with
   | none => rw [hj] at e1'; cases e1'
   | some j =>
     rw [hj] at e1' e2'
     obtain ⟨y', n1, n2, n3, c, n4⟩ := L.fr j (List.mem_of_getElem? hj)
     have e1'' : X.N.getD j "" = y := Option.some.inj e1'
     have e2'' : σ.getD j none = some v := Option.some.inj e2'
     have : y' = y := by
      rw [List.getD, n1] at e1''
      exact e1''
     subst this
     have hσ : σ[j]? = some (some v) := by
      rw [List.getD] at e2''
      cases q : σ[j]? with
      | none => rw [q] at e2''; cases e2''
      | some z => rw [q] at e2''; exact congrArg some e2''
     obtain ⟨m, hn, hl⟩ := I2.loc
     obtain ⟨u, r, l⟩ := hl j y' v n1 hσ (.inr (.inl n2))
     refine ⟨u, r, ?_⟩
     rcases l with ⟨k1, _⟩ | ⟨_, c', k2, k3⟩
     ·rw [n2] at k1; cases k1
     ·have : c' = c := by
       have := L.sub _ _ n4
       rw [k2] at this
       exact Option.some.inj this
      subst this
      obtain ⟨o, ho, hd⟩ := k3
      exact .inr ⟨.inl n3, c', n4, o, old _ _ ho, hd⟩
 cell := fun y c e => by
  obtain ⟨v, o, ho, hd⟩ := I2.cell y c (L.sub y c e)
  exact ⟨v, o, old _ _ ho, hd⟩
 free := I2.hok.fresh hC
 freeC := fun y c e => I2.freeC y c (L.sub y c e)
 pin := fun p hp => by
  have e : p = (D, oD) := by simpa [Cx.inC] using hp
  subst e
  refine ⟨hoD, I2.hok.fresh hD, hDC, fun z => ?_, hdD⟩
  rcases List.mem_cons.mp (I2.stkSub D z) with e | e
  ·exact absurd I2.lt (by rw [← e]; exact Nat.not_lt.mpr hD)
  ·exact I2.nofs hD e
 hok := I2.hok.kept old
 len := by simp [Cx.inC]
theorem Qkq {elt iter tg : Expr} {g : TG} {xs : List Str} {pos cpos : Pos} {scope : Scope} {cl : List (Str × Addr)} {wi : TI} {te : TE} {js : List Nat} {use : Option (Value → Sem Unit)} {Qc : Q0} {pins : Q3} {s : Shared} {σ : St} {H : Hp} {Q : VK}
 (hc : X.calm = true) (L : LcOkT X xs scope cl js) (hi : PI X tg iter wi) (hg : ∀ C s2 H2 fp xe, PG (X.inC scope cl C s2 H2 fp (xs ++ js.map (fun j => X.N.getD j "")) xe) tg g)
 (he : ∀ C s2 H2 fp xe, PE (X.inC scope cl C s2 H2 fp (xs ++ js.map (fun j => X.N.getD j "")) xe) elt te)
 (hs : ∀ z, foldedSetIterable iter X.env z = pure z) (I : Inv X pins σ H s) (h : tLCT wi g te xs.length js σ H Q)
 (fin : ∀ (D C : Addr) (H4 : Hp) (s4 : Shared) (m : Str → Option Value), s4.heap.Ns C m → FpOk X pins H4 C → (∀ h', Heap.SameBut C s4.heap h' → Inv X pins σ H4 { s4 with heap := h' }) → Q (.ref D) H4 → compPost (model X.prog X.w) X.A X.xe use Qc (.ref D) C (.ok .next) s4) :
 wpAny (model X.prog X.w) X.A (comprehension (.ListComp elt [⟨tg, iter, [], 0⟩] scope pos) scope X.env cpos (newList []) false (eval iter X.env) use) Qc X.xe s := by
 refine wpAny_comprehension_free (cl := cl) (use := use) rfl hs L.clos L.kind L.names ?_
 refine thn (hi pins s σ H _ I h) fun v s1 h1 => thn h1 fun itv s2 h2 => ?_
 obtain ⟨it, fp, tn, J, H2, e, I2, T, st2, f2, W, ⟨k0, w0⟩, turn⟩ := h2
 subst e
 refine wpAny_newObj_type (wpAny_newFunctionEnv L.cell (by intro y hy; simp at hy) (fun h₁ hns₁ hsb₁ => ?_) L.kind)
 dsimp only at hns₁ hsb₁ ⊢
 generalize hH2 : s2.heap.push { cls := .type "list", dict := none, data := .seq ([] : List Value).toArray } = Hp2 at hns₁ hsb₁ ⊢
 have hC : Hp2.objs.size = s2.heap.objs.size + 1 := by rw [← hH2, Heap.size_push]
 generalize hD0 : s2.heap.objs.size = D at hC ⊢
 generalize hC0 : Hp2.objs.size = C at hC hns₁ hsb₁ ⊢
 have hDC : D ≠ C := by omega
 have below : ∀ b, b < D → b ≠ C := fun b hb => by omega
 have old : ∀ b o, s2.heap.get? b = some o → h₁.get? b = some o := fun b o e =>
  hsb₁.extBut b o (below b (by rw [← hD0]; exact Heap.lt_size e)) (Heap.get?_push_of_some _ (hH2 ▸ Heap.get?_push_of_some _ e))
 have hacc : h₁.get? D = some { cls := .type "list", data := .seq ([] : List Value).toArray 0 } := by
  subst hD0
  exact hsb₁.extBut _ _ hDC (Heap.get?_push_of_some _ (hH2 ▸ Heap.get?_push_size _ rfl))
 have fo : ∀ b ∈ fp, ∃ o, s2.heap.get? b = some o := fun b hb => let ⟨o, e, _⟩ := T.obj _ _ st2 b hb; ⟨o, e⟩
 have flt : ∀ b ∈ fp, b < D := fun b hb => let ⟨o, e⟩ := fo b hb; by rw [← hD0]; exact Heap.lt_size e
 have st1 : tn 0 h₁ := T.keep _ _ _ st2 fun b hb o e => old b o e
 let R := compPost (model X.prog X.w) X.A X.xe use Qc (.ref D) C
 let xe := notedBy (model X.prog X.w) X.A (compEnvC scope cl C X.env) fun e s' => R (.error e) s'
 let X' := X.inC scope cl C s2 H2 fp (xs ++ js.map (fun j => X.N.getD j "")) xe
 have I0 : ∀ {t' : Nat}, Inv X' [(D, _)] (xs.map (fun _ => none) ++ js.map (fun j => σ.getD j none)) H2 { s2 with heap := h₁, toks := t' } := fun {t'} =>
  Inv.inCT L I2 f2 fo (by omega) (by omega) hDC old hns₁ hacc (fun v z => by cases z)
 have fpk : ∀ {pD : Q3} {H' : Hp}, (∀ p ∈ pD, p.1 = D) → (∀ b ∈ fp, H' b = none) → ∀ b ∈ fp, FpOk X' pD H' b := fun {pD H'} hp hn b hb => by
  refine ⟨hn b hb, below b (flt b hb), fun z => ?_, .inl hb, fun y c e => (f2 b hb).2.2.2.2.1 y c (L.sub y c e), fun p hp' z => ?_⟩
  ·rcases List.mem_cons.mp (I2.stkSub b z) with e | e
   ·exact (f2 b hb).2.1 e
   ·exact (f2 b hb).2.2.1 e
  ·have q := hp p (by simpa [X', Cx.inC] using hp')
   have := flt b hb
   rw [← z, q] at this
   exact Nat.lt_irrefl _ this
 have loop : ∀ s3 : Shared, (∃ k i ys H' its n, ∃ σ0 : St, σ0.length = xs.length ∧ Inv X' [(D, { cls := .type "list", data := .seq (its : List Value).toArray n })] (σ0 ++ js.map (fun j => σ.getD j none)) H' s3 ∧ tn i s3.heap ∧ (∀ b ∈ fp, H' b = none) ∧ W i k ys H' ∧ Vals ys its ∧ ys.length ≤ sizeLine) →
  codeAny (model X.prog X.w) X.A (.compLoop (.ListComp elt [⟨tg, iter, [], 0⟩] scope pos) 0 (.ref it) (.ref D) (compEnvC scope cl C X.env)) R s3 := by
  rintro s3 ⟨k, hk⟩
  refine codeAny_loop rfl (fun k s3 => ∃ i ys H' its n, ∃ σ0 : St, σ0.length = xs.length ∧ Inv X' [(D, { cls := .type "list", data := .seq (its : List Value).toArray n })] (σ0 ++ js.map (fun j => σ.getD j none)) H' s3 ∧ tn i s3.heap ∧ (∀ b ∈ fp, H' b = none) ∧ W i k ys H' ∧ Vals ys its ∧ ys.length ≤ sizeLine) (fun k s3 hI => ?_) k hk
  obtain ⟨i, ys, H3, its, n, σ0, hσ0, I3, st3, fr3, w3, vy, hz⟩ := hI
  show wpAny _ _ ((compTurn (.ListComp elt [⟨tg, iter, [], 0⟩] scope pos) 0 (.ref it) (.ref D) (compEnvC scope cl C X.env)).onRaise (fun x => do noteFrame x (compEnvC scope cl C X.env); theTreesLotGoes x)) _ _ s3
  refine wpAny_noted ?_
  rw [compTurn_list1]
  have hpD : ∀ {o : Obj}, ∀ p ∈ [(D, o)], p.1 = D := fun p hp => by rw [List.mem_singleton.mp hp]
  refine wpAny_bind (wpAny_standAt (wpAny_bind ?_))
  rcases turn i k ys H3 w3 with ⟨stop, qn⟩ | ⟨go, hlen, N, hN, step⟩
  ·refine thn (T.done X' rfl rfl rfl hc i _ s3 _ H3 xe I3 (fpk hpD fr3) st3 stop) fun r s4 ⟨hr, I4⟩ => ?_
   subst hr
   refine wpAny_pure ?_
   obtain ⟨m, hn, _⟩ := I4.loc
   obtain ⟨eD, nD, _⟩ := I4.pin (D, _) (List.mem_append_right _ (List.mem_singleton.mpr rfl))
   have fC : FpOk X pins (upd H3 D (.lst ys)) C := I2.fpOk (by omega) (by
    rw [Qah (Ne.symm hDC)]
    exact I4.free)
   refine fin D C (upd H3 D (.lst ys)) s4 m hn fC (fun h' sb => ?_) (qn D nD)
   obtain ⟨hh, g, d, t, os'⟩ := s4
   obtain rfl : os' = s2.os := I4.os
   have kp : ∀ b o, b ≠ C → hh.get? b = some o → h'.get? b = some o := fun b o hb e => (sb.2 b hb).trans e
   have lt2 : ∀ b o, s2.heap.get? b = some o → b ≠ C ∧ b ≠ D := fun b o e => by
    have q : b < D := by rw [← hD0]; exact Heap.lt_size e
    exact ⟨below b q, Nat.ne_of_lt q⟩
   have B : Un (frs X.stack) fp H2 H3 s2.heap hh := I4.base
   have hDn : H3 D = none := nD
   have I5 : Inv X pins σ (upd H3 D (.lst ys)) { s2 with heap := h', gens := g, drawn := d, toks := t } := by
    refine I2.call (h' := h') (g' := g) (d' := d) (t' := t) (ch := fp) ⟨?_, ?_, ?_, ?_, ?_, ?_, ?_⟩ ?_ I4.bare ?_
    ·exact fun b o e n hb hx => kp b o (lt2 b o e).1 (B.keep b o e n hb hx)
    ·intro b o e n hb hx
     obtain ⟨sl, q⟩ := B.slot b o e n hb hx
     exact ⟨sl, kp b _ (lt2 b o e).1 q⟩
    ·intro b o e n hx
     rw [Qah (lt2 b o e).2]
     exact B.free b o e n hx
    ·intro b o e hx
     obtain ⟨o', q⟩ := B.there b o e hx
     exact ⟨o', kp b o' (lt2 b o e).1 q⟩
    ·intro b xs e
     have q := B.tups b xs e
     rw [Qah (Qai q hDn)]
     exact q
    ·intro b o u e
     have q := B.frzs b o u e
     rw [Qah (Qai q hDn)]
     exact q
    ·intro b ps e
     obtain ⟨more, q⟩ := B.tbls b ps e
     exact ⟨more, by rw [Qah (Qai q hDn)]; exact q⟩
    ·intro b u e
     by_cases hb : b = D
     ·subst hb
      rw [Qab] at e
      cases e
      exact ⟨hz, its, n, vy, kp _ _ hDC eD⟩
     ·rw [Qah hb] at e
      have nC : ∀ c o, H3 c = some o → c ≠ C := fun c o q => Qai q I4.free
      refine (I4.hok b u e).stay (fun c v hc' q => kp c v ?_ q) (fun c q => by rw [Qah (Qai q hDn)]; exact q) fun c xs q => by rw [Qah (Qai q hDn)]; exact q
      rcases hc' with z | z
      ·rw [z]; exact nC b u e
      ·exact nC c _ z
    ·intro b hb
     obtain ⟨_, f1, _, f3, f4, f5⟩ := f2 b hb
     exact ⟨f3, f1, f4, f5⟩
   exact I5
  ·refine thn (T.item X' rfl rfl rfl hc i _ s3 _ H3 xe I3 (fpk hpD fr3) st3 go) fun r s4 ⟨u, hr, h4⟩ => ?_
   subst hr
   refine wpAny_bind (thn h4 fun _ s5 ⟨xv, H5, I5, r5, y5, st5, fr5⟩ => ?_)
   have I5' := I5.pinned (fpk hpD fr5) (T.obj _ _ st5)
   refine wpAny_bind (thn (hg C s2 H2 fp xe _ s5 _ H5 xv u _ I5' r5 (step xv _ y5 σ0 hσ0)) fun _ s6 ⟨σ6, H6, I6, σ1, hσ1, e6, st6⟩ => ?_)
   subst e6
   refine wpAny_bind (wpAny_bind (thn (he C s2 H2 fp xe _ s6 _ _ _ I6 st6) fun y s7 ⟨yv, H7, I7, ry, n7⟩ => ?_))
   obtain ⟨m', hm, w7⟩ := hN yv H7 n7
   have I7' := I7.unpinned
   obtain ⟨eD, nD, neC, nfs, _⟩ := I7'.pin (D, _) (List.mem_append_right _ (List.mem_singleton.mpr rfl))
   have eD' : s7.heap.get? D = some { cls := .type "list", data := .seq its.toArray n } := eD
   have lv := vy.length
   refine wpAny_bind (call_meets F.slot_list_append ⟨_, eD', rfl⟩ F.entry_list_append (F.args_list_append_2 _ _) (PySem.list_append D its.toArray n y (by rw [List.size_toArray]; omega)) ⟨eD', ?_⟩)
   refine wpAny_pure (wpAny_pure ⟨rfl, m', hm, i + 1, ys ++ [yv], H7, its ++ [y], ?_⟩)
   have q := PySem.IsL.update eD' (fun a : Array Value => a.push y)
   have I8 : Inv X' [] (σ1 ++ js.map (fun j => σ.getD j none)) H7 { s7 with heap := s7.heap.update D (Obj.mapSeq (fun a : Array Value => a.push y)) } :=
    (I7'.Qcl (pins' := []) (fun p hp => nomatch hp)).turned (t' := s7.toks) (it := D) (fun b o hb e => (Heap.get?_update_other s7.heap _ (Ne.symm hb)).trans e) nD neC (.inr (by show s2.heap.objs.size ≤ D; omega))
     (fun z c e w => by
      obtain ⟨v', o', ho', _⟩ := I2.cell z c (L.sub z c e)
      have := Heap.lt_size ho'
      rw [w, hD0] at this
      exact Nat.lt_irrefl _ this) (fun p hp => nomatch hp)
   have pinf : ∀ b ∈ fp, ∀ o, s5.heap.get? b = some o → s7.heap.get? b = some o ∧ H7 b = none := fun b hb o e => by
    have z := I7.pin (b, o) (List.mem_append_right _ (List.mem_append_right _ (Qbs hb e)))
    exact ⟨z.1, z.2.1⟩
   obtain ⟨n', q'⟩ : ∃ n', (s7.heap.update D (Obj.mapSeq (fun a : Array Value => a.push y))).get? D = some { cls := .type "list", data := .seq (its ++ [y]).toArray n' } := by
    rw [show (its ++ [y]).toArray = its.toArray.push y by simp]
    exact ⟨_, q⟩
   refine ⟨n', σ1, hσ1, I8.Qcl fun p hp => ?_, ?_, fun b hb => ?_, w7, vy.append (.cons ry .nil), by rw [List.length_append, List.length_singleton]; omega⟩
   ·rw [List.mem_singleton.mp hp]
    exact ⟨q', nD, neC, nfs, fun v z => by cases z⟩
   ·refine T.keep _ _ _ st5 fun b hb o e => ?_
    have hb' : D ≠ b := fun z => by
     have := flt b hb
     rw [← z] at this
     exact Nat.lt_irrefl _ this
    exact (Heap.get?_update_other s7.heap _ hb').trans (pinf b hb o e).1
   ·obtain ⟨o, e, _⟩ := T.obj _ _ st5 b hb
    exact (pinf b hb o e).2
 have start : ∀ {t' : Nat}, ∃ k i ys H' its n, ∃ σ0 : St, σ0.length = xs.length ∧ Inv X' [(D, { cls := .type "list", data := .seq (its : List Value).toArray n })] (σ0 ++ js.map (fun j => σ.getD j none)) H' { s2 with heap := h₁, toks := t' } ∧ tn i h₁ ∧ (∀ b ∈ fp, H' b = none) ∧ W i k ys H' ∧ Vals ys its ∧ ys.length ≤ sizeLine := fun {t'} =>
  ⟨k0, 0, [], H2, [], 0, xs.map (fun _ => none), List.length_map .., I0, st1, fun b hb => (f2 b hb).1, w0, .nil, Nat.zero_le _⟩
 exact codeAny_compStart_list (loop _ start) (T.self X.A 0 _ _ _ st1 (loop _ start))
theorem Qee {elt iter tg : Expr} {g : TG} {xs : List Str} {pos : Pos} {scope : Scope} {cl : List (Str × Addr)} {wi : TI} {te : TE} (js : List Nat) (hc : X.calm = true) (L : LcOkT X xs scope cl js) (hi : PI X tg iter wi)
 (hg : ∀ C s2 H2 fp xe, PG (X.inC scope cl C s2 H2 fp (xs ++ js.map (fun j => X.N.getD j "")) xe) tg g)
 (he : ∀ C s2 H2 fp xe, PE (X.inC scope cl C s2 H2 fp (xs ++ js.map (fun j => X.N.getD j "")) xe) elt te)
 (hs : ∀ z, foldedSetIterable iter X.env z = pure z := by intro _; rfl) :
 PE X (.ListComp elt [⟨tg, iter, [], 0⟩] scope pos) (tLCT wi g te xs.length js) := by
 intro pins s σ H Q I h
 rw [eval_ListComp]
 exact Qkq (use := none) hc L hi hg he hs I h fun D C H4 s4 m hn _ I4 q => ⟨m, hn, fun h' sb => ⟨.ref D, H4, I4 h' sb, rfl, q⟩⟩
theorem LcOkT.plain {X : Cx} {xs : List Str} {scope : Scope} (hfree : ∀ y ∈ scope.names, y.2 ≠ .free) (hcell : ∀ y ∈ scope.names, y.2 ≠ .cell) (hkind : scope.kind = .function) (hnames : ∀ y ∈ scope.names, y.2 = .local → scope.names.lookup y.1 = some .local)
 (hloc : ∀ x ∈ xs, scope.names.lookup x = some .local) (hnd : xs.Nodup) : LcOkT X xs scope [] [] where
 clos := closureFor_none hfree
 sub := fun _ _ e => nomatch e
 kind := hkind
 cell := hcell
 names := hnames
 loc := hloc
 has := fun y h => by
  rcases h with h | h
  ·exact (Qa5 hfree hcell h).elim
  ·exact (Qa5 hfree hfree h).elim
 nd := by simpa using hnd
 fr := fun _ h => nomatch h
end
end L2
namespace L2
open PySem PySem.Spec PyProof.Rows PySem.W PySem.Calls L3
theorem Qjv : ∀ {ns : List Int}, WData.weightAll (ns.map WData.int) ≤ 2 ^ 20 → ∀ w ∈ ns, Builtin.Int.intBits w ≤ 2 ^ 20
 | [], _, w, h => nomatch h
 | n :: ns, h, w, hw => by
   have h' : WData.weight (.int n) + 1 + WData.weightAll (ns.map WData.int) ≤ 2 ^ 20 := h
   rcases List.mem_cons.mp hw with rfl | m
   ·have e : WData.weight (.int w) = if w == 0 then 0 else w.natAbs.log2 + 1 := rfl
    rw [e] at h'
    unfold Builtin.Int.intBits
    by_cases c : w = 0
    ·subst c
     simp
    ·simp [c] at h' ⊢
     omega
   ·exact Qjv (by omega) w m
theorem Qfr {l : OpenLaw} {n : Nat} {q : Program} {loose : List Str} {XP : (Str → Option Value) → Heap → Prop} {YP : World → Heap → Prop} {d : DefRec}
 (hn : l.most = some n) (hdf : d.params.defaults = [])
 (call : ∀ (w : World) (s₀ s₁ : Shared) (mg mb : Str → Option Value) (fa : Addr) (o : Obj) (pm cd doc : Value) (a : Addr) (vs : List Value) (ns : List Int),
  Ground q loose [] XP w s₀ mg mb s₁.heap → YP w s₁.heap →
  s₁.heap.get? fa = some o → o.data = .func (docDef d.name d.params d.body d.scope pm cd doc) → s₁.heap.CodeRec cd d.name → mg d.name = some (.ref fa) →
  s₁.heap.get? a = some { cls := .type "list", data := .seq vs.toArray } → IntsAre vs ns → ns.length ≤ n → (∀ w ∈ ns, Builtin.Int.intBits w ≤ 2 ^ 20) → s₁.gens = #[] →
  codeAny (model l.prog w) callerA (.call (.ref fa) ⟨[.ref a], []⟩) (fun r s' => r = .ok (.ret (.bool true)) ∧ OldK s₁.heap s'.heap ∧ s'.os = s₁.os ∧ AllBare s'.gens) s₁) :
 WalkO q loose XP YP l.row.toRowW d [] (fun f vs => PySem.call f vs) := by
 intro w s₀ s₁ mg mb G Y fa o pm cd doc dV kV ho hd hcd hD hmg hg args vals as hpre hlay hrd hwl hlo
 obtain rfl : dV = .none := Dflts.none hD hdf
 obtain rfl : kV = .none := Dflts.noKw hD
 obtain ⟨a, vs, ns, rfl, rfl, hobj, hints, hlen⟩ := Att.Qh8 hn hpre hwl
 have hb : ∀ w ∈ ns, Builtin.Int.intBits w ≤ 2 ^ 20 := by
  have h1 : WData.layable (.list (ns.map WData.int)) = true := by
   have := hlay
   unfold WData.layableAll at this
   simpa using this
  unfold WData.layable at h1
  rw [Bool.and_eq_true, decide_eq_true_eq] at h1
  exact Qjv h1.2
 refine enter_call (codeAny_mono (call w s₀ s₁ mg mb fa o pm cd doc a vs ns G Y ho (fd_plain hd) hcd hmg hobj hints hlen hb hg) fun r s' hq => ?_)
 obtain ⟨rfl, h2, h3, h4⟩ := hq
 exact ⟨.inl ⟨.bool true, .bool true, [], rfl, fun _ => rfl, .bool true, Att.Qie l _, fun _ => ⟨List.Pairwise.nil, fun _ hm => (nomatch hm)⟩⟩, h2, h3, h4⟩
theorem Qj0 {l : PySem.W.OpenLaw} {n k : Nat} {q : Program} {loose : List Str} {XP : (Str → Option Value) → Heap → Prop} {YP : World → Heap → Prop} {d : DefRec} {K : Params → PySem.W.Frag} {CX : World → CXT} {sp : World → Sp} {x : Str}
 (hn : l.most = some n) (hn2 : n ≤ sizeLine) (hdf : d.params.defaults = []) (hr : Room true k callerA)
 (hY : ∀ (w : World) (h : Heap), YP w h → (K w.params).In h)
 (F : ∀ (w : World) (mg : Str → Option Value) (fa : Addr) (h : Heap), (K w.params).In h → h.Ns mainGlobals mg → mg d.name = some (.ref fa) →
  ∃ fd : FuncData, (∀ (s : Shared) (u : Value), BindsTo s fd ⟨[u], []⟩ [(x, u)]) ∧
    ∀ base : Heap, (K w.params).In base → base.Ns mainGlobals mg → FnOk l.prog w (K w.params) mg base (CX w) true k fa fd [x] (sp w))
 (hsp : ∀ (w : World) (H : Hp) (a : Addr) (ns : List Int), ns.length ≤ n → (∀ w ∈ ns, Builtin.Int.intBits w ≤ 2 ^ 20) → Only H → SqL (K w.params) H a (ns.map V.int) → sp w [.ref a] H (fun v _ => v = .bl true) fun _ _ _ => False)
 (hCX : ∀ (w : World) (H : Hp) (s : Shared) (e : Value) (s' : Shared), CX w [] H s (fun _ _ _ => False) e s' → False) :
 PySem.W.WalkO q loose XP YP l.row.toRowW d [] (fun f vs => PySem.call f vs) := by
 refine Qfr hn hdf fun w s₀ s₁ mg mb fa o pm cd doc a vs ns G Y ho hd hcd hmg hobj hints hlen hb2 hg => ?_
 have KX := hY w _ Y
 obtain ⟨fd, hb, hF⟩ := F w mg fa _ KX G.T.g hmg
 exact Qkr KX G.T.g G.T.b G.T.builtins G.T.nolimit hg hobj hints (Nat.le_trans hlen hn2) hr hF hb (fun H hO hS => hsp w H a ns hlen hb2 hO hS) fun H e s' => hCX w H s₁ e s'
end L2
namespace L2
open PySem PySem.Spec PyProof.Rows L3
theorem Qbe {K : Q4} {a : Addr} {xs : List V} {T : V → Hp → VK → Prop} {B : V → Hp → (Bool → Hp → Prop) → Prop} {R : Addr → Hp → List V → Prop} {H : Hp} (Pv : Nat → List V → Hp → Prop) (h0 : Pv 0 [] H) (hn : xs.length ≤ sizeLine) (hl : ∀ i ys H, i ≤ xs.length → Pv i ys H → SqL K H a xs ∧ ys.length ≤ i)
 (hs : ∀ i x ys H, xs[i]? = some x → Pv i ys H → B x H fun b H2 => if b = true then T x H2 (fun y H3 => Pv (i + 1) (ys ++ [y]) H3) else Pv (i + 1) ys H2) (hd : ∀ ys H, Pv xs.length ys H → ∀ l, H l = none → R l H ys) :
 ∃ W : Nat → Nat → List V → Hp → Prop, (∃ m, W 0 m [] H) ∧ ∀ i m ys H, W i m ys H →
   ((Itl K a).stop i H ∧ ∀ l, H l = none → R l H ys) ∨ ((Itl K a).go i H ∧ ys.length < sizeLine ∧ ∃ (N : VK) (S : Hp → Prop), (∀ y H2, N y H2 → ∃ m', m' < m ∧ W (i + 1) m' (ys ++ [y]) H2) ∧ (∀ H2, S H2 → ∃ m', m' < m ∧ W (i + 1) m' ys H2) ∧
     ∀ x H', (Itl K a).yld i H x H' → B x H' fun b H2 => if b = true then T x H2 N else S H2) := by
 refine ⟨fun i m ys H => m = xs.length - i ∧ i ≤ xs.length ∧ Pv i ys H, ⟨xs.length, by simp, Nat.zero_le _, h0⟩, ?_⟩
 rintro i m ys H ⟨rfl, hi, p⟩
 obtain ⟨q, hy⟩ := hl i ys H hi p
 by_cases hlt : i < xs.length
 ·refine .inr ⟨⟨xs, xs[i], q, by simp [hlt]⟩, by omega, fun y H2 => Pv (i + 1) (ys ++ [y]) H2, fun H2 => Pv (i + 1) ys H2, fun y H2 p' => ⟨xs.length - (i + 1), by omega, rfl, hlt, p'⟩, fun H2 p' => ⟨xs.length - (i + 1), by omega, rfl, hlt, p'⟩, fun x H' ⟨e, y⟩ => ?_⟩
  subst e
  exact hs i x ys _ (y xs q) p
 ·have e : i = xs.length := by omega
  subst e
  exact .inl ⟨⟨xs, q, Nat.le_refl _⟩, hd ys H p⟩
theorem Qgv {X : Cx} {xs : List Str} {scope : Scope} {cl : List (Str × Addr)} {js : List Nat} {C : Addr} {s2 : Shared} {H2 : Hp} {fp : List Addr} {xe : Q0} {i : Nat} {x : Str} {px : Pos} (L : LcOkT X xs scope cl js) (hi : (xs ++ js.map (fun j => X.N.getD j ""))[i]? = some x) (hx : x ∈ xs) :
 PG (X.inC scope cl C s2 H2 fp (xs ++ js.map (fun j => X.N.getD j "")) xe) (.Name x px) (gName i) :=
 Qar (X := X.inC scope cl C s2 H2 fp (xs ++ js.map (fun j => X.N.getD j "")) xe) L.nd hi (Or.inl (lookup_relabel_local (L.loc x hx))) (Or.inr (lookup_relabel_local (L.loc x hx)))
theorem Qco {X : Cx} {x1 x2 : Str} {p1 p2 pos : Pos} {k : Nat} {scope : Scope} {cl : List (Str × Addr)} {js : List Nat} (hc : X.calm = true) (L : LcOkT X [x1, x2] scope cl js) :
 ∀ (C : Addr) (s2 : Shared) (H2 : Hp) (fp : List Addr) (xe : Q0), PG (X.inC scope cl C s2 H2 fp ([x1, x2] ++ js.map (fun j => X.N.getD j "")) xe) (.Tuple [.Name x1 p1, .Name x2 p2] k pos) (gTup X.K 2 (gCons (gName 0) (gCons (gName 1) gNil))) := fun C s2 H2 fp xe =>
 Qec (X := X.inC scope cl C s2 H2 fp ([x1, x2] ++ js.map (fun j => X.N.getD j "")) xe) hc (Qbi (Qgv (i := 0) L rfl List.mem_cons_self) (Qbi (Qgv (i := 1) L rfl (List.mem_cons_of_mem _ List.mem_cons_self)) Qdc))
theorem Qi3 {zs : List Str} (h : zs.length ≤ 8) (h1 : ∀ z ∈ zs, z.length = 1) : JoinOk "" zs = true := by
 unfold JoinOk
 rw [Bool.not_eq_true', StrLaws.joinTotal]
 have s : (zs.map (·.length)).sum = zs.length := by
  clear h
  induction zs with
  | nil => rfl
  | cons z r ih =>
    rw [List.map_cons, List.sum_cons, ih fun y hy => h1 y (List.mem_cons_of_mem _ hy), h1 z List.mem_cons_self, List.length_cons]
    omega
 rw [s]
 have e : ("" : Str).length = 0 := rfl
 rw [e]
 unfold Builtin.Str.tooLong
 have hline : 600 ≤ sizeLine := by decide
 exact decide_eq_false (by omega)
end L2
namespace PySem.W
open PySem PySem.Calls PyProof.Rows PyProof.V PySem.Spec
section
variable {prog : Program} {w : World} {A : Around} {E : Q0}
theorem Qhm : typeLookup (.type "list") "keys" = pure none := by rw [typeLookup_type, builtinLookup_eq_fast]; kernel_rfl
theorem Qd9 {s : Shared} {a : Addr} {o : Obj} {xs : Array Value} {k : Nat} {Q : Option Value → Shared → Prop} (hx : s.heap.get? a = some o) (hc : o.cls = .type "list") (hdat : o.data = .seq xs k) (hd : o.dict = none) (hA : A.handled = none)
 (hq : ∀ h' tk e, Heap.NewExcOf s.heap h' e "AttributeError" → Q none { s with heap := h', toks := tk }) :
 wpAny (model prog w) A (getAttr? (.ref a) "keys") Q E s := by
 obtain ⟨c, dct, dat, sl⟩ := o
 simp only at hc hdat hd
 subst hc hdat hd
 obtain ⟨hp, g, d, tk, os⟩ := s
 have hT : ∀ tk', (⟨hp, g, d, tk', os⟩ : Shared).TypeIs (.ref a) "list" := fun _ => ⟨_, hx, rfl⟩
 have f1 := sub_AttributeError
 have f3 := F.slot_list_getattribute.lookup
 have f4 := F.slot_list_getattribute.bind (.ref a)
 have f5 := am_list_getattr_none
 have hname : (["__module__", "__name__", "__qualname__", "__doc__", "__annotations__"] : List Str).contains "keys" = false := by decide+kernel
 have hsz : ("keys" : Str).length + 100 ≤ sizeLine := by decide+kernel
 unfold getAttr? getAttrBy? getAttrBy
 repeat (any_goals (first | assumption | exact hT _ | ((with_reducible show wpAny _ _ (call (Value.builtin "list.__getattribute__") _ _) _ _ _); refine call_meets F.slot_list_getattribute (hT _) am_entry_list_getattribute (F.args_list_getattribute_2 _ _) (meets_getattribute_miss_list a xs k sl "keys" _ Qhm hname hsz) ⟨hx, hA, fun h' tk' e hx' => ?_⟩) | wp_step))
 obtain ⟨t', u', he⟩ := hx'.there
 show wpAny _ _ (getattributeRaised _ _ _ _ _ _ _) _ _ _
 unfold getattributeRaised
 repeat (any_goals (first | assumption | wp_step))
 exact hq _ _ _ hx'.of
theorem Qct : entryFor table "dict.update.loop" = some Builtin.«dict.update.loop» := entryFor_of_fast (by kernel_rfl)
theorem Qb0 : plainId "dict.update.loop" = true := by decide+kernel
variable {K : Type} [DecidableEq K] {knd : KeyKind prog w K}
structure PairAt (knd : KeyKind prog w K) (h : Heap) (v : Value) (k : K) (x : Value) : Prop where
 is : ∃ a key, v = .ref a ∧ knd.is k key = true ∧ IsTup h a #[key, x]
theorem Qki {s : Shared} {d : Addr} {kvs : List (K × Value)} {v x : Value} {k : K} {Q : Unit → Shared → Prop} (i : Int) (p : PairAt knd s.heap v k x) (hm : s.heap.DictOf knd d kvs) (hsz : kvs.length ≤ sizeLine)
 (hQ : ∀ h', h'.DictOf knd d (stored kvs k x) → Heap.SameBut d s.heap h' → Q () { s with heap := h', toks := s.toks + 1 }) :
 wpAny (model prog w) A (holding [v] (do
  let pair ← (Builtin.Dict.pairItems v).tryCatch fun e => do
   if !(← isInstance e (.type "TypeError")) then throw e
   rule "dict.update.element-no-sequence"
   raiseError "TypeError" s!"cannot convert dictionary update sequence element #{i} to a sequence"
  match pair with
  | [k, v] => holding [k, v] (dictSet d k v)
  | l =>
    rule "dict.update.element-length"
    raiseError "ValueError" s!"dictionary update sequence element #{i} has length {l.length}; 2 is required")) Q E s := by
 obtain ⟨a, key, rfl, hk, o, ho, hc, n, hd⟩ := p.is
 refine wpAny_holding ?_
 have hT : s.TypeIs (.ref a) "tuple" := ⟨o, ho, hc⟩
 refine wpAny_bind (wpAny_tryCatch ?_)
 unfold Builtin.Dict.pairItems
 refine wpAny_bind (wpAny_typeOf hT ?_)
 rw [if_pos (by decide+kernel)]
 refine wpAny_bind (wpAny_seqItems ho hd (wpAny_pure ?_))
 show wpAny _ _ (holding [key, x] (dictSet d key x)) _ _ _
 exact wpAny_holding (wpAny_dictSet_pairs hk hm hQ hsz)
def storedAll (kvs : List (K × Value)) (ps : List (K × Value)) : List (K × Value) := ps.foldl (fun acc p => stored acc p.1 p.2) kvs
theorem Qj2 {s : Shared} {d it l : Addr} {items : List Value} {ps : List (K × Value)} {R : Result → Shared → Prop} (hh : A.handled = none) (hdi : d ≠ it) (hil : it ≠ l) (hdl : d ≠ l) (hlen : items.length = ps.length) (hn : ps.length ≤ 10 ^ 6) {h₁ : Heap}
 (old : ∀ (j : Nat) v p, items[j]? = some v → ps[j]? = some p → PairAt knd h₁ v p.1 p.2 ∧ v ≠ .ref d ∧ v ≠ .ref it)
 (hR : ∀ h' tk, h'.DictOf knd d (storedAll [] ps) → (∀ b o, b ≠ d → b ≠ it → h₁.get? b = some o → h'.get? b = some o) → R (.ok (.ret .none)) { s with heap := h', toks := tk }) :
 ∀ (k i : Nat) (h : Heap) (tk : Nat), ps.length - i = k → i ≤ ps.length → h.IsListIter it l i → h.IsList l items.toArray → h.DictOf knd d (storedAll [] (ps.take i)) → (∀ b o, b ≠ d → b ≠ it → h₁.get? b = some o → h.get? b = some o) →
   codeAny (model prog w) A (.builtin "dict.update.loop" ⟨[.ref d, .ref it, rawInt i, .none], []⟩) R { s with heap := h, toks := tk } := by
 have hline : 10 ^ 6 ≤ sizeLine := by decide
 have hst : ∀ (n : Nat), (storedAll ([] : List (K × Value)) (ps.take n)).length ≤ n := by
  intro n
  have all : ∀ (qs kvs : List (K × Value)), (storedAll kvs qs).length ≤ kvs.length + qs.length := by
   intro qs
   induction qs with
   | nil => intro kvs; exact Nat.le_refl _
   | cons q qs ih =>
     intro kvs
     have h1 := ih (stored kvs q.1 q.2)
     have h2 : (stored kvs q.1 q.2).length ≤ kvs.length + 1 := by
      unfold stored
      split <;> simp
     show (storedAll (stored kvs q.1 q.2) qs).length ≤ _
     rw [List.length_cons]
     omega
  have := all (ps.take n) []
  rw [List.length_take] at this
  simp at this
  omega
 intro k
 induction k with
 | zero =>
   intro i h tk hk hi hit hl hm keep
   have hin : i = ps.length := by omega
   subst hin
   refine codeAny_builtin Qct ?_
   rw [Around.under_plainId Qb0 _]
   show wpAny _ A.in1 (pyNext (.ref it) >>= _) _ _ _
   refine wpAny_bind (wpAny_pyNext_list_end (s := { s with heap := h, toks := tk }) hh hit hl (by simp [hlen]) fun h' he => ?_)
   rw [List.take_length] at hm
   refine wpAny_bind (wpAny_pure ?_)
   refine wpAny_pure (hR h' tk (hm.extBut he hdi) fun b o h1 h2 e => he b o h2 (keep b o h1 h2 e))
 | succ k ih =>
   intro i h tk hk hi hit hl hm keep
   have hlt : i < ps.length := by omega
   obtain ⟨v, hv⟩ : ∃ v, items[i]? = some v := ⟨items[i], List.getElem?_eq_getElem (by omega)⟩
   obtain ⟨p, hp⟩ : ∃ p, ps[i]? = some p := ⟨ps[i], List.getElem?_eq_getElem hlt⟩
   obtain ⟨⟨a, key, rfl, hkk, o, ho, hc, n, hd⟩, nd, ni⟩ := old i v p hv hp
   refine codeAny_builtin Qct ?_
   rw [Around.under_plainId Qb0 _]
   show wpAny _ A.in1 (pyNext (.ref it) >>= _) _ _ _
   refine wpAny_bind (wpAny_pyNext_list_item (s := { s with heap := h, toks := tk }) hit hl (x := .ref a) (by simpa using hv) fun h' hit' sb => ?_)
   have ad : a ≠ d := fun e => nd (by rw [e])
   have ai : a ≠ it := fun e => ni (by rw [e])
   have ha' : h'.get? a = some o := (sb.2 a ai).trans (keep a o ad ai ho)
   refine wpAny_bind (Qki (s := { s with heap := h', toks := tk }) (knd := knd) (i : Int) (k := p.1) (x := p.2) ⟨a, key, rfl, hkk, o, ha', hc, n, hd⟩ (hm.extBut sb.extBut hdi) (Nat.le_trans (hst i) (by omega)) fun h2 hm2 sb2 => ?_)
   refine wpAny_pure ⟨plainId_quiet Qb0 _, ?_⟩
   have := ih (i + 1) h2 (tk + 1) (by omega) hlt ?_ ?_ ?_ ?_
   ·exact this
   ·obtain ⟨oi, h1, h3⟩ := hit'
    exact ⟨oi, (sb2.2 it (Ne.symm hdi)).trans h1, h3⟩
   ·obtain ⟨ol, h1, h3⟩ := hl
    exact ⟨ol, (sb2.2 l (Ne.symm hdl)).trans ((sb.2 l (Ne.symm hil)).trans h1), h3⟩
   ·rw [List.take_succ, hp]
    unfold storedAll at hm2 ⊢
    rw [List.foldl_append]
    exact hm2
   ·intro b o' h1 h2' e
    exact (sb2.2 b h1).trans ((sb.2 b h2').trans (keep b o' h1 h2' e))
theorem Qd6 {s : Shared} {l : Addr} {o : Obj} {n : Nat} {items : List Value} {ps : List (K × Value)} {Q : Q0} (hh : A.handled = none) (ho : s.heap.get? l = some o) (hc : o.cls = .type "list") (hd : o.dict = none) (hdat : o.data = .seq items.toArray n) (hlen : items.length = ps.length) (hn : ps.length ≤ 10 ^ 6)
 (old : ∀ (j : Nat) v p, items[j]? = some v → ps[j]? = some p → PairAt knd s.heap v p.1 p.2)
 (hQ : ∀ h' tk, h'.DictOf knd s.heap.objs.size (storedAll [] ps) → (∀ b o, s.heap.get? b = some o → h'.get? b = some o) → Q (.ref s.heap.objs.size) { s with heap := h', toks := tk }) :
 wpAny (model prog w) A (call (.type "dict") [.ref l]) Q E s := by
 refine callType_codes (Q₁ := fun obj s₁ => obj = .ref s.heap.objs.size ∧ s₁ = { s with heap := s.heap.push { cls := .type "dict", data := .dict #[] } }) F.kt_called_dict (F.kt_typeCall_dict_1 _) F.entry_dict_init (kt_code_dict_new _ ⟨rfl, rfl⟩) ?_
 rintro obj s₁ ⟨rfl, rfl⟩
 have hnew : (s.heap.push { cls := .type "dict", data := .dict #[] }).DictOf knd s.heap.objs.size [] := Heap.DictOf.new s.heap
 have ho' : (s.heap.push { cls := .type "dict", data := .dict #[] }).get? l = some o := Heap.get?_push_of_some _ ho
 have hll : l < s.heap.objs.size := Heap.lt_size ho
 refine ⟨hnew.typeIs, F.args_dict_init_2 _ _, ?_⟩
 unfold Builtin.«dict.__init__»
 refine wpAny_bind ?_
 unfold Builtin.Dict.selfAndRest
 refine wpAny_bind (wpAny_notOrdered_dict hnew.typeIs ?_)
 show wpAny _ _ (pure (s.heap.objs.size, [Value.ref l])) _ _ _
 refine wpAny_pure ?_
 show wpAny _ _ (Builtin.Dict.updateFrom "dict.__init__" s.heap.objs.size (.ref l) [] .none) _ _ _
 unfold Builtin.Dict.updateFrom
 refine wpAny_bind (wpAny_typeOf (T := "list") ⟨_, ho', hc⟩ ?_)
 rw [if_pos (by decide+kernel)]
 refine wpAny_bind ?_
 refine Qd9 (s := { s with heap := s.heap.push { cls := .type "dict", data := .dict #[] } }) ho' hc hdat hd hh fun h' tk e hx => ?_
 rw [if_pos (show (none : Option Value).isNone = true from rfl)]
 refine wpAny_bind (wpAny_rule ?_)
 have hk1 : ∀ b ob, s.heap.get? b = some ob → h'.get? b = some ob := fun b ob hb => hx.keeps b ob (Heap.get?_push_of_some _ hb)
 have hl' : h'.IsList l items.toArray := ⟨o, hk1 l o ho, hc, n, hdat⟩
 have hd' : h'.DictOf knd s.heap.objs.size [] := by
  obtain ⟨od, es, ep, h1, r⟩ := hnew
  exact ⟨od, es, ep, hx.keeps _ _ h1, r⟩
 have hlt' : s.heap.objs.size < h'.objs.size := by
  obtain ⟨od, es, ep, h1, r⟩ := hd'
  exact Heap.lt_size h1
 refine wpAny_bind (wpAny_pyIter_list (s := { s with heap := h', toks := tk }) hl' ?_)
 refine wpAny_pure ⟨plainId_quiet Qb0 _, ?_⟩
 have hold : ∀ b ob, s.heap.get? b = some ob → (h'.push { cls := .type "list_iterator", data := .fields #[.ref l, .int 0 0] }).get? b = some ob := fun b ob hb => Heap.get?_push_of_some _ (hk1 b ob hb)
 refine Qj2 (s := s) (A := A.in1) (knd := knd) (d := s.heap.objs.size) (it := h'.objs.size) (l := l) (items := items) (ps := ps) (h₁ := s.heap) hh (Nat.ne_of_lt hlt') (Nat.ne_of_gt (Nat.lt_trans hll hlt')) (Nat.ne_of_gt hll) hlen hn (fun j v p e1 e2 => ?_) (fun h2 tk2 dd keep => ?_) ps.length 0 _ _ (Nat.sub_zero _) (Nat.zero_le _) ⟨_, Heap.get?_push_size _ rfl, rfl, rfl⟩ ⟨o, Heap.get?_push_of_some _ (hk1 l o ho), hc, n, hdat⟩ (hd'.push _) (fun b ob _ _ hb => hold b ob hb)
 ·have q := old j v p e1 e2
  obtain ⟨a, key, rfl, hkk, o2, ho2, hc2, n2, hd2⟩ := q.is
  have hal := Heap.lt_size ho2
  refine ⟨q, fun z => ?_, fun z => ?_⟩
  ·injection z with z
   exact absurd hal (by rw [z]; exact Nat.lt_irrefl _)
  ·injection z with z
   exact absurd (Nat.lt_trans hal hlt') (by rw [z]; exact Nat.lt_irrefl _)
 ·refine ⟨rfl, hQ h2 tk2 dd fun b ob hb => keep b ob (Nat.ne_of_lt (Heap.lt_size hb)) ?_ hb⟩
  exact Nat.ne_of_lt (Nat.lt_trans (Heap.lt_size hb) hlt')
end
end PySem.W
namespace L2
open PySem PySem.Spec PyProof.Rows L3
section
variable {X : Cx}
def putAll (kvs : List (Key × V)) (ps : List (Key × V)) : List (Key × V) := ps.foldl (fun acc p => putK acc p.1 p.2) kvs
theorem KV.putAll : ∀ {ps : List (Key × V)} {qs : List (Key × Value)} {kvs : List (Key × V)} {vs : List (Key × Value)}, KV ps qs → KV kvs vs → KV (putAll kvs ps) (PySem.W.storedAll vs qs) := by
 intro ps qs kvs vs r
 unfold KV at r
 induction r generalizing kvs vs with
 | nil => intro q; exact q
 | @cons p q ps qs h t ih =>
   intro r0
   have e : KV (putK kvs p.1 p.2) (stored vs q.1 q.2) := by
    have := r0.put p.1 h.2
    rw [← h.1]
    exact this
   exact ih e
theorem Qde : ∀ (ps kvs : List (Key × V)), (putAll kvs ps).length ≤ kvs.length + ps.length
 | [], kvs => Nat.le_refl _
 | p :: r, kvs => by
   have h1 := Qde r (putK kvs p.1 p.2)
   have h2 := Qf5 kvs p.1 p.2
   show (putAll (putK kvs p.1 p.2) r).length ≤ _
   rw [List.length_cons]
   omega
def rDictPairs (K : Q4) : List V → Hp → VK → Prop := fun xs H Q => ∃ (l : Addr) (L : List (Addr × Key × V)), xs = [.ref l] ∧ H l = some (.lst (L.map fun z => .ref z.1)) ∧ L.length ≤ 10 ^ 6 ∧ (∀ z ∈ L, H z.1 = some (.tup [kV z.2.1, z.2.2])) ∧
 ∀ d, H d = none → Q (.ref d) (upd H d (.dK (putAll [] (L.map (·.2)))))
theorem Qgq : ∀ {L : List (Addr × Key × V)} {its : List Value}, Vals (L.map fun z => V.ref z.1) its → its = L.map fun z => Value.ref z.1
 | [], _, .nil => rfl
 | z :: L, _, .cons r t => by
   rw [Qgq t, List.map_cons]
   cases r
   rfl
theorem Qfj (hc : X.calm = true) : CallR X (.type "dict") (rDictPairs X.K) := by
 intro pins s σ H xs us Q I rv h
 obtain ⟨l, L, rfl, hl, hn, hL, q⟩ := h
 obtain ⟨u, rfl, ru⟩ := rv.one
 cases ru
 obtain ⟨z, its, n, r, e⟩ := I.hok l _ hl
 have hits := Qgq r
 subst hits
 have hex : ∃ qs : List (Key × Value), KV (L.map (·.2)) qs ∧ ∀ (j : Nat) v p, (L.map fun z => Value.ref z.1)[j]? = some v → qs[j]? = some p → PySem.W.PairAt (mixKind X.prog X.w) s.heap v p.1 p.2 := by
  clear r e q hl z hn
  induction L with
  | nil => exact ⟨[], .nil, fun j v p h => by simp at h⟩
  | cons y L ih =>
    obtain ⟨qs, rel, hp⟩ := ih fun z hz => hL z (List.mem_cons_of_mem _ hz)
    obtain ⟨_, ts, rt, o, ho, hcl, n2, hdt⟩ := I.hok y.1 _ (hL y List.mem_cons_self)
    cases rt with
    | cons r1 rr =>
      obtain ⟨u2, rfl, r2⟩ := Vals.one rr
      rename_i u1
      refine ⟨(y.2.1, u2) :: qs, .cons ⟨rfl, r2⟩ rel, fun j v p e1 e2 => ?_⟩
      cases j with
      | zero =>
        cases e1
        cases e2
        exact ⟨y.1, u1, rfl, Qkt r1, o, ho, hcl, n2, hdt⟩
      | succ j => exact hp j v p (by simpa using e1) (by simpa using e2)
 obtain ⟨qs, rel, hp⟩ := hex
 have hlen : L.length = qs.length := by
  have := rel.length
  rw [List.length_map] at this
  exact this
 refine PySem.W.Qd6 (knd := mixKind X.prog X.w) (ps := qs) (I.ok.hd hc) e rfl rfl rfl (by rw [List.length_map]; exact hlen) (by omega) hp fun h' tk dd keep => ?_
 refine ⟨.ref s.heap.objs.size, _, I.laid (a := s.heap.objs.size) (o := .dK (putAll [] (L.map (·.2)))) (t' := tk) keep (Nat.le_refl _) ?_, rfl, q _ I.fresh⟩
 have hline : 10 ^ 6 ≤ sizeLine := by decide
 have hl2 := Qde (L.map (·.2)) []
 rw [List.length_map] at hl2
 refine Ql2 (by simp at hl2; omega) ?_ (rel.putAll .nil) dd
 have hb := I.big
 exact beq_eq_false_iff_ne.mpr (Nat.ne_of_gt hb)
end
theorem Qnr : bootBuiltins "dict" = some (.type "dict") := by decide+kernel
end L2
namespace PySem.W
open PySem PySem.Calls PyProof.Rows PyProof.V PySem.Spec
section
variable {prog : Program} {w : World} {A : Around} {E : Q0} {s : Shared} {r l : Addr} {items : Array Value}
end
end PySem.W
namespace L2
open PySem PySem.Spec PyProof.Rows L3
section
variable {X : Cx}
end
end L2
namespace L2
open PySem PySem.Spec PyProof.Rows L3
def DefX (K : Q4) (C : Addr) (qual : Str) (st : Stmt) : Prop := ∃ f fd, FunD K "__init__" qual st f fd .none ∧ findIn K (.ref C) "__init__" = some (some (.ref f)) ∧ PySem.W.isFn K (.ref f) = true
def CalX (P : Program) (w : World) (K : Q4) (mg : Str → Option Value) (base : Heap) (cm : Bool) (k : Nat) (C : Addr) (ps : List Str) (sp : Sp) : Prop :=
 ∃ f fd, findIn K (.ref C) "__init__" = some (some (.ref f)) ∧ PySem.W.isFn K (.ref f) = true ∧ FnOk P w K mg base CX0 cm k f fd ps sp ∧ Binds K fd ps []
section
variable {X : Cx}
def EqO (K : Q4) (H : Hp) (x y : V) : Prop := (x = .non ∧ y = .non) ∨ ∃ a b xs, x = .ref a ∧ y = .ref b ∧ SqT K H a xs ∧ SqT K H b xs ∧ ∀ z ∈ xs, eqPl z = true
theorem op_eqO {cm : Bool} {k : Nat} (hr : Room cm k X.A) : OpR X (compareOp .Eq) (fun x y H Q => EqO X.K H x y ∧ Q (.bl true) H) := by
 intro pins s σ H x y v u Q I rx ry ⟨h, q⟩
 rcases h with ⟨rfl, rfl⟩ | ⟨a, b, xs, rfl, rfl, ha, hb, hp⟩
 ·exact Qb4 pins s σ H .non .non v u Q I rx ry ⟨rfl, by rw [show decide ((V.non) = V.non) = true from rfl]; exact q⟩
 ·cases rx
  cases ry
  obtain ⟨its, r, pl, hz⟩ := I.tuple ha
  obtain ⟨its2, r2, pl2, hz2⟩ := I.tuple hb
  have l1 := r.length
  have l2 := r2.length
  have hu : X.A.units < cLine := by have := hr.un; omega
  refine SeqAt.eq_tupleAt (e := fun _ => true) (show s.heap.IsTuple a its.toArray from pl) (show s.heap.IsTuple b its2.toArray from pl2) hu (fun j h1 h2 => ?_) ?_
  ·simp only [List.size_toArray] at h1 h2
   obtain ⟨x, e, rx⟩ := Qbj r j h1
   obtain ⟨x2, e2, rx2⟩ := Qbj r2 j h2
   rw [e] at e2
   cases e2
   simp only [List.getElem_toArray]
   exact Qc9 (hp x (List.mem_of_getElem? e)) rx rx2
  ·have hb : ((List.range (min its.toArray.size its2.toArray.size)).all (fun _ => true) && its.toArray.size == its2.toArray.size) = true := by
    simp only [List.size_toArray]
    rw [← l1, ← l2]
    simp
   rw [hb]
   exact ⟨.bl true, H, I, rfl, q⟩
theorem op_neO {cm : Bool} {k : Nat} (hr : Room cm k X.A) : OpR X (compareOp .NotEq) (fun x y H Q => EqO X.K H x y ∧ Q (.bl false) H) := by
 intro pins s σ H x y v u Q I rx ry ⟨h, q⟩
 rcases h with ⟨rfl, rfl⟩ | ⟨a, b, xs, rfl, rfl, ha, hb, hp⟩
 ·exact Qik pins s σ H .non .non v u Q I rx ry ⟨rfl, by rw [show (!decide ((V.non) = V.non)) = false from rfl]; exact q⟩
 ·cases rx
  cases ry
  obtain ⟨its, r, pl, hz⟩ := I.tuple ha
  obtain ⟨its2, r2, pl2, hz2⟩ := I.tuple hb
  have l1 := r.length
  have l2 := r2.length
  have hu : X.A.units < cLine := by have := hr.un; omega
  refine SeqAt.RcNeAt.tuples (e := fun _ => true) (show s.heap.IsTuple a its.toArray from pl) (show s.heap.IsTuple b its2.toArray from pl2) hu (fun j h1 h2 => ?_) _ _ _ _ ?_
  ·simp only [List.size_toArray] at h1 h2
   obtain ⟨x, e, rx⟩ := Qbj r j h1
   obtain ⟨x2, e2, rx2⟩ := Qbj r2 j h2
   rw [e] at e2
   cases e2
   simp only [List.getElem_toArray]
   exact Qc9 (hp x (List.mem_of_getElem? e)) rx rx2
  ·have hb : (!((List.range (min its.toArray.size its2.toArray.size)).all (fun _ => true) && its.toArray.size == its2.toArray.size)) = false := by
    simp only [List.size_toArray]
    rw [← l1, ← l2]
    simp
   rw [hb]
   exact ⟨.bl false, H, I, rfl, q⟩
theorem Qkk {cm : Bool} {k : Nat} (hr : Room cm k X.A) : OpR X (compareOp .Eq) (fun x y H Q => ∃ a b xs ys, x = .ref a ∧ y = .ref b ∧ SqL X.K H a xs ∧ SqL X.K H b ys ∧ ((xs.length ≠ ys.length ∧ Q (.bl false) H) ∨ (EqLs X.K H xs ys ∧ Q (.bl true) H))) := by
 intro pins s σ H x y v u Q I rx ry h
 obtain ⟨a, b, xs, ys, rfl, rfl, ha, hb, h⟩ := h
 rcases h with ⟨hne, q⟩ | ⟨he, q⟩
 ·cases rx
  cases ry
  obtain ⟨its, r, pl, hz⟩ := I.list ha
  obtain ⟨its2, r2, pl2, hz2⟩ := I.list hb
  have l1 := r.length
  have l2 := r2.length
  have hu : X.A.units < cLine := by have := hr.un; omega
  refine SeqAt.eq_list_lengthsAt pl.isList pl2.isList ?_ hu ⟨.bl false, H, I, rfl, q⟩
  simp only [List.size_toArray]
  rw [← l1, ← l2]
  simpa using hne
 ·exact Qil hr pins s σ H _ _ v u Q I rx ry ⟨a, b, xs, ys, rfl, rfl, ha, hb, he, q⟩
end
end L2
namespace L2
open PySem PySem.W PyProof.Rows
structure Ord (n : Nat) (lt : Nat → Nat → Bool) : Prop where
 tri : ∀ i j, i < n → j < n → i ≠ j → lt i j = !lt j i
 tr : ∀ i j k, i < n → j < n → k < n → lt i j = true → lt j k = true → lt i k = true
structure PermN (n : Nat) (p : Array Nat) : Prop where
 pm : p.toList.Perm (List.range n)
theorem PermN.size {n : Nat} {p : Array Nat} (h : PermN n p) : p.size = n := by
 have := h.pm.length_eq
 simpa using this
section
variable {n : Nat} {lt : Nat → Nat → Bool} {cmp : Nat → Nat → (Bool → Shared → Prop) → Shared → Prop} {s : Shared}
end
end L2
namespace L2
open PySem PySem.W PySem.Spec PyProof.Rows L3
section
variable {prog : Program} {w : World} {s : Shared} {A : Around} {E : Q0}
end
end L2
namespace L2
open PySem PySem.W PySem.Spec PyProof.Rows L3
section
variable {prog : Program} {w : World} {s : Shared} {A : Around} {E : Q0}
end
end L2
namespace L2
open PySem PySem.W PySem.Spec PyProof.Rows L3
section
variable {prog : Program} {w : World} {s : Shared} {A : Around} {E : Q0}
end
end L2
namespace L2
open PySem PySem.W PySem.Spec PyProof.Rows L3
def ltS (x y : Str) : Bool := decide (x.cps.toList < y.cps.toList)
def ltP (k l : Str × Str) : Bool := if k.1 = l.1 then ltS k.2 l.2 else ltS k.1 l.1
theorem str_eq {x y : Str} (h : x.cps.toList = y.cps.toList) : x = y := by
 cases x; cases y
 simp only [Str.mk.injEq]
 exact Array.toList_inj.mp h
theorem Qes {x y : Str} (h : x ≠ y) : ltS x y = !ltS y x := by
 unfold ltS
 by_cases a : x.cps.toList < y.cps.toList
 ·have : ¬ y.cps.toList < x.cps.toList := fun b => List.lt_irrefl _ (List.lt_trans a b)
  simp [a, this]
 ·have : y.cps.toList < x.cps.toList := by
   rcases Classical.em (y.cps.toList < x.cps.toList) with b | b
   ·exact b
   ·exact absurd (str_eq (List.le_antisymm (List.not_lt.mp b) (List.not_lt.mp a))) h
  simp [a, this]
theorem Qgz {x y z : Str} (h1 : ltS x y = true) (h2 : ltS y z = true) : ltS x z = true := by
 unfold ltS at *
 exact decide_eq_true (List.lt_trans (of_decide_eq_true h1) (of_decide_eq_true h2))
theorem Qg0 {x y : Str} (h : ltS x y = true) : x ≠ y := fun e => by
 subst e
 exact List.lt_irrefl _ (of_decide_eq_true h)
theorem Qmz {k l : Str × Str} (h : k ≠ l) : ltP k l = !ltP l k := by
 unfold ltP
 by_cases e : k.1 = l.1
 ·rw [if_pos e, if_pos e.symm]
  exact Qes fun z => h (Prod.ext e z)
 ·rw [if_neg e, if_neg (Ne.symm e)]
  exact Qes e
theorem ltP_tr {k l m : Str × Str} (h1 : ltP k l = true) (h2 : ltP l m = true) : ltP k m = true := by
 unfold ltP at *
 by_cases e : k.1 = l.1
 ·rw [if_pos e] at h1
  by_cases f : l.1 = m.1
  ·rw [if_pos f] at h2
   rw [if_pos (e.trans f)]
   exact Qgz h1 h2
  ·rw [if_neg f] at h2
   rw [if_neg (fun z => f (e.symm.trans z)), e]
   exact h2
 ·rw [if_neg e] at h1
  by_cases f : l.1 = m.1
  ·rw [if_neg (fun z => e (z.trans f.symm)), ← f]
   exact h1
  ·rw [if_neg f] at h2
   have h3 := Qgz h1 h2
   rw [if_neg (Qg0 h3)]
   exact h3
section
variable {prog : Program} {w : World} {s : Shared} {A : Around} {E : Q0}
def TwoAt (h : Heap) (a : Addr) (k : Str × Str) : Prop := ∃ o n t u, h.get? a = some o ∧ o.cls = .type "tuple" ∧ o.data = .seq #[.str k.1 t, .str k.2 u] n
inductive TwosAt (h : Heap) : List Addr → List (Str × Str) → Prop where
 | nil : TwosAt h [] []
 | cons {a : Addr} {k : Str × Str} {as : List Addr} {ks : List (Str × Str)} (x : TwoAt h a k) (r : TwosAt h as ks) : TwosAt h (a :: as) (k :: ks)
theorem TwosAt.len {h : Heap} : ∀ {as : List Addr} {ks : List (Str × Str)}, TwosAt h as ks → as.length = ks.length
 | _, _, .nil => rfl
 | _, _, .cons _ r => congrArg (· + 1) r.len
theorem TwosAt.at {h : Heap} : ∀ {as : List Addr} {ks : List (Str × Str)} (i : Nat), TwosAt h as ks → i < as.length → ∃ a, (as.map Value.ref).getD i Value.none = .ref a ∧ TwoAt h a (ks.getD i ("", ""))
 | _, _, i, .nil, hi => absurd hi (Nat.not_lt_zero _)
 | _, _, 0, .cons x _, _ => ⟨_, rfl, x⟩
 | _, _, i + 1, .cons _ r, hi => by
   obtain ⟨a, e, x⟩ := r.at i (by simpa using hi)
   exact ⟨a, by simpa [List.getD] using e, by simpa [List.getD] using x⟩
end
end L2
namespace L2
open PySem PySem.W PySem.Spec PyProof.Rows L3
section
variable {X : Cx}
end
end L2
namespace L2
open PySem PySem.Spec PyProof.Rows L3
section
variable {X : Cx}
end
end L2
namespace L2
open PySem PySem.Spec PyProof.Rows L3
theorem Qg1 : ∀ {xs ys : List (Str × Str)}, xs.Perm ys → xs.Pairwise (fun a b => ltP a b = true) → ys.Pairwise (fun a b => ltP a b = true) → xs = ys
 | [], ys, p, _, _ => p.nil_eq
 | x :: xs, [], p, _, _ => absurd p.length_eq (by simp)
 | x :: xs, y :: ys, p, h1, h2 => by
   have a1 := List.pairwise_cons.mp h1
   have a2 := List.pairwise_cons.mp h2
   have e : x = y := by
    rcases List.mem_cons.mp (p.mem_iff.mp List.mem_cons_self) with z | z
    ·exact z
    ·rcases List.mem_cons.mp (p.mem_iff.mpr (List.mem_cons_self (a := y) (l := ys))) with z2 | z2
     ·exact z2.symm
     ·have b1 := a1.1 y z2
      have b2 := a2.1 x z
      have := ltP_tr b1 b2
      have hne : x ≠ y := fun e => by
       subst e
       unfold ltP at b1
       rw [if_pos rfl] at b1
       exact Qg0 b1 rfl
      rw [Qmz hne, b2] at b1
      cases b1
   subst e
   rw [Qg1 (List.perm_cons x |>.mp p) a1.2 a2.2]
end L2
namespace L2
open PySem PySem.Spec PyProof.Rows L3
section
variable {X : Cx}
end
end L2
namespace L2
open PySem PySem.Spec PyProof.Rows L3
section
variable {X : Cx}
end
end L2
namespace L2
open PySem PySem.Spec PyProof.Rows L3
def ItE (K : Q4) (a : Addr) : It :=
 ⟨fun i H => ∃ xs x, SqL K H a xs ∧ xs[i]? = some x, fun i H x H' => ∃ t y, x = .ref t ∧ H t = none ∧ H' = upd H t (.tup [.int (i : Int), y]) ∧ ∀ xs, SqL K H a xs → xs[i]? = some y, fun i H => ∃ xs, SqL K H a xs ∧ xs.length ≤ i⟩
theorem Qhv {P : Program} {w : World} {K : Q4} {elts : List Expr} {x1} {pos : Pos} (a e it : Addr) (hne : e ≠ it) : Turn P w K (.Tuple elts x1 pos) (ItE K a) [e, it] e (fun i h => ∃ old, IsEnum h e it (i : Int) old ∧ h.IsListIter it a i) where
 mem := by simp
 obj := fun i h st b hb => by
  obtain ⟨old, he, o, ho, hc, hd⟩ := st
  rcases List.mem_cons.mp hb with z | z
  ·subst z
   exact ⟨_, he, fun v z => by
    have z' : Data.fields _ = Data.cell v := z
    cases z'⟩
  ·rw [List.mem_singleton.mp z]
   exact ⟨o, ho, fun v z => by rw [hd] at z; cases z⟩
 keep := fun i h h' st k => by
  obtain ⟨old, he, hi⟩ := st
  exact ⟨old, k e (by simp) _ he, hi.at fun o q => k it (by simp) o q⟩
 item := by
  intro X hP hw hK hc i pins s σ H E I hf st hg
  subst hP hw hK
  obtain ⟨xs, x, hq, hx⟩ := hg
  obtain ⟨its, rv, p, hz⟩ := I.list hq
  obtain ⟨u, hu, ru⟩ := rv.get hx
  obtain ⟨old, he, hi⟩ := st
  obtain ⟨f0, f1, f2, f3, f4, f5⟩ := hf it (by simp)
  obtain ⟨g0, g1, g2, g3, g4, g5⟩ := hf e (by simp)
  refine wpAny_pyNext_enum_item he hi p.isList (x := u) (by simpa using hu) hne fun h1 heo hit1 ht1 hz1 hk1 => ?_
  refine ⟨_, rfl, wpAny_letOwnedTupleGo_enum heo fun h2 he2 hs2 => ?_⟩
  replace hs2 : Heap.SameBut e h1 h2 := hs2
  have hit2 : h2.IsListIter it a (i + 1) := hit1.at fun o q => (hs2.2 it (Ne.symm hne)).trans q
  obtain ⟨oi, hoi, _, _⟩ := id hi
  obtain ⟨oi2, hoi2, hic2, hid2⟩ := id hit2
  have le : e < s.heap.objs.size := Heap.lt_size he
  have li : it < s.heap.objs.size := Heap.lt_size hoi
  have gA : (s.heap.update it (fun _ => oi2)).get? it = some oi2 := Heap.get?_update_self (fun _ => oi2) hoi (Obj.isFreed_of_fields hid2)
  have oA : ∀ b, b ≠ it → (s.heap.update it (fun _ => oi2)).get? b = s.heap.get? b := fun b hb => Heap.get?_update_other _ _ (Ne.symm hb)
  have IA : Inv X pins σ H { s with heap := s.heap.update it (fun _ => oi2), toks := s.toks } := I.turned (t' := s.toks) (it := it) (fun b o hb q => (oA b hb).trans q) f0 f1 f3 f4 f5
  generalize hA : s.heap.update it (fun _ => oi2) = HA at gA oA IA
  have zA : HA.objs.size = s.heap.objs.size := by rw [← hA]; exact Heap.size_after_update ..
  obtain ⟨oe2, hoe2⟩ : ∃ o, h2.get? e = some o := ⟨_, he2⟩
  have hfe : oe2.isFreed = false := by
   have : oe2 = _ := Option.some.inj (hoe2.symm.trans he2)
   rw [this]
   exact Obj.isFreed_of_fields rfl
  have gB : (HA.update e (fun _ => oe2)).get? e = some oe2 := Heap.get?_update_self (fun _ => oe2) ((oA e hne).trans he) hfe
  have oB : ∀ b, b ≠ e → (HA.update e (fun _ => oe2)).get? b = HA.get? b := fun b hb => Heap.get?_update_other _ _ (Ne.symm hb)
  have IB := IA.turned (t' := s.toks) (it := e) (h' := HA.update e (fun _ => oe2)) (fun b o hb q => (oB b hb).trans q) g0 g1 g3 g4 g5
  have zB : (HA.update e (fun _ => oe2)).objs.size = s.heap.objs.size := by rw [← zA]; exact Heap.size_after_update ..
  generalize HA.update e (fun _ => oe2) = HB at gB oB IB zB
  have kB : ∀ b o, HB.get? b = some o → h2.get? b = some o := fun b o q => by
   by_cases be : b = e
   ·subst be
    rw [gB] at q
    cases q
    exact hoe2
   ·rw [oB b be] at q
    by_cases bi : b = it
    ·subst bi
     rw [gA] at q
     cases q
     exact hoi2
    ·rw [oA b bi] at q
     exact (hs2.2 b be).trans (hk1 b o be bi q)
  have hT : h2.get? s.heap.objs.size = some { cls := .type "tuple", data := .seq #[.int i s.toks, u] } := (hs2.2 _ (Nat.ne_of_gt le)).trans ht1
  have IC := IB.laid (a := s.heap.objs.size) (o := .tup [.int (i : Int), x]) (t' := s.toks + 1) (h' := h2) kB (Nat.le_of_eq zB) ⟨(by show 2 ≤ sizeLine; decide), [.int i s.toks, u], .cons ⟨s.toks, rfl⟩ (.cons ru .nil), ⟨_, hT, rfl, _, rfl⟩⟩
  refine ⟨.ref s.heap.objs.size, _, IC, rfl, ⟨_, x, rfl, I.hok.fresh (Nat.le_refl _), rfl, fun ys hy => by rw [I.Qdq hy hq]; exact hx⟩, ⟨_, he2, hit2⟩, fun b hb => ?_⟩
  have bl : b < s.heap.objs.size := by
   rcases List.mem_cons.mp hb with z | z
   ·rw [z]; exact le
   ·rw [List.mem_singleton.mp z]; exact li
  rw [Qah (Nat.ne_of_lt bl)]
  exact (hf b hb).1
 done := by
  intro X hP hw hK hc i pins s σ H E I hf st hg
  subst hP hw hK
  obtain ⟨xs, hq, hx⟩ := hg
  obtain ⟨its, rv, p, hz⟩ := I.list hq
  obtain ⟨old, he, hi⟩ := st
  obtain ⟨f0, f1, f2, f3, f4, f5⟩ := hf it (by simp)
  have hl := rv.length
  exact wpAny_pyNext_enum_end (I.ok.hd hc) he hi p.isList (by simp; omega) fun h' eb => ⟨rfl, I.turned (t' := s.toks) (fun b o hb e => eb b o hb e) f0 f1 f3 f4 f5⟩
 self := fun _ _ _ _ _ st h => by
  obtain ⟨old, he, hi⟩ := st
  exact wpAny_pyIter_enum he h
section
variable {X : Cx}
def iEnum (K : Q4) (ta : TA) : TI := fun σ H R => ta σ H fun vs H1 => ∃ a, vs = [.ref a] ∧ (∃ xs, SqL K H1 a xs) ∧ R (ItE K a) H1
theorem Qdw {l : Expr} {elts : List Expr} {x1} {tp : Pos} {ta : TA} {p pos : Pos} (hg : Gl X "enumerate") (hm : X.mg "enumerate" = none) (ha : PA X [l] ta) (hs : starEach [l] X.env = [(false, eval l X.env)] := by rfl) :
 PI X (.Tuple elts x1 tp) (.Call (.Name "enumerate" p) [l] [] pos) (iEnum X.K ta) := by
 intro pins s σ H R I h
 refine Call_ (Qdi I hg hm boot_enumerate (PyProof.Rows.callWith_type1 (thn (ha pos pins s σ H _ I h) fun us s1 ⟨vs, H1, I1, r1, q1⟩ => ?_) hs rfl))
 obtain ⟨a, e, ⟨xs, hq⟩, q⟩ := q1
 subst e
 cases r1 with
 | cons r rr =>
   cases rr
   cases r
   obtain ⟨its, rv, p, hz⟩ := I1.list hq
   refine call_enumerate_list p.isList fun h' he hit hsz hk => ?_
   refine wpAny_pyIter_enum he ?_
   refine ⟨s1.heap.objs.size + 1, [s1.heap.objs.size + 1, s1.heap.objs.size], _, _, H1, rfl, I1.kept (t' := s1.toks) hk, Qhv a _ _ (Nat.succ_ne_self _), ⟨.none, he, hit⟩, fun b hb => ?_, q⟩
   rcases List.mem_cons.mp hb with z | z
   ·rw [z]
    exact I1.fpOk (Nat.le_succ _) (I1.hok.fresh (Nat.le_succ _))
   ·rw [List.mem_singleton.mp z]
    exact I1.fpOk (Nat.le_refl _) (I1.hok.fresh (Nat.le_refl _))
theorem Qev {K : Q4} {a : Addr} {xs : List V} {g : TG} {tb : TS} {D : Ends} {σ : St} {H : Hp} (Pv : Nat → St → Hp → Prop) (h0 : Pv 0 σ H) (hl : ∀ i σ H, i ≤ xs.length → Pv i σ H → SqL K H a xs)
 (hs : ∀ i x σ H t, xs[i]? = some x → Pv i σ H → H t = none → g (.ref t) σ (upd H t (.tup [.int (i : Int), x])) fun σ2 H2 => tb { D with nx := Pv (i + 1), ct := Pv (i + 1), bk := D.nx } σ2 H2) (hd : ∀ σ H, Pv xs.length σ H → D.nx σ H) :
 ∃ W : Nat → Nat → St → Hp → Prop, (∃ m, W 0 m σ H) ∧ ∀ i m σ H, W i m σ H →
   ((ItE K a).stop i H ∧ D.nx σ H) ∨ ((ItE K a).go i H ∧ ∃ N : St → Hp → Prop, (∀ σ' H', N σ' H' → ∃ m', m' < m ∧ W (i + 1) m' σ' H') ∧ ∀ x H', (ItE K a).yld i H x H' → g x σ H' fun σ2 H2 => tb { D with nx := N, ct := N, bk := D.nx } σ2 H2) := by
 refine ⟨fun i m σ H => m = xs.length - i ∧ i ≤ xs.length ∧ Pv i σ H, ⟨xs.length, by simp, Nat.zero_le _, h0⟩, ?_⟩
 rintro i m σ H ⟨rfl, hi, p⟩
 have q := hl i σ H hi p
 by_cases hlt : i < xs.length
 ·refine .inr ⟨⟨xs, xs[i], q, by simp [hlt]⟩, Pv (i + 1), fun σ' H' p' => ⟨xs.length - (i + 1), by omega, rfl, hlt, p'⟩, fun x H' y => ?_⟩
  obtain ⟨t, y, rfl, ht, rfl, hy⟩ := y
  exact hs i y σ H t (hy xs q) p ht
 ·have e : i = xs.length := by omega
  subst e
  exact .inl ⟨⟨xs, q, Nat.le_refl _⟩, hd σ H p⟩
end
end L2
namespace PySem.W
open PySem
section
variable {prog : Program} {w : World} {A : Around} {E : Q0} {s : Shared}
end
end PySem.W
namespace L2
open PySem PySem.W PySem.Spec PyProof.Rows L3
section
variable {X : Cx}
end
end L2
namespace L2
open PySem PySem.W PySem.Spec PyProof.Rows L3
section
variable {X : Cx} {CX : CXT} {cm : Bool} {k : Nat} {f C : Addr} {fd : FuncData} {ps : List Str} {sp : Sp} {dvs : List V} {ds : List Value} {E : XK} {x m : Str} {p pos apos : Pos} {e : Expr} {es : List Expr} {t : TA} {mc : Value}
end
theorem Qez {X : Cx} {scope : Scope} {cl : List (Str × Addr)} {C : Addr} {s2 : Shared} {H2 : Hp} {fp : List Addr} {N' : List Str} {xe : Q0} : CallR (X.inC scope cl C s2 H2 fp N' xe) (.type "list") (fun xs H Q => ∃ p ys, xs = [.ref p] ∧ (SqL X.K H p ys ∨ SqT X.K H p ys) ∧ ∀ l, H l = none → Q (.ref l) (upd H l (.lst ys))) := Qbm (X := X.inC scope cl C s2 H2 fp N' xe)
end L2
namespace L2
open PySem PySem.W PySem.Spec PyProof.Rows L3
section
variable {X : Cx}
def eqLi (K : Q4) (H : Hp) (x y : V) : Prop := ∃ a b xs ys, x = .ref a ∧ y = .ref b ∧ SqL K H a xs ∧ SqL K H b ys ∧ EqLs K H xs ys
theorem Inv.eqLi {pins : Q3} {σ : St} {H : Hp} {s : Shared} {x y : V} {v u : Value} {A : Around} (I : Inv X pins σ H s) (hu : A.units < cLine) (hu1 : A.in1.units < cLine) (e : eqLi X.K H x y) (rx : RelV x v) (ry : RelV y u) : SeqAt.EqAt A s v u true := by
 obtain ⟨a, b, xs, ys, rfl, rfl, ha, hb, hl, he⟩ := e
 cases rx
 cases ry
 by_cases hab : a = b
 ·subst hab
  exact SeqAt.EqAt.same _
 obtain ⟨its, r, pl, hz⟩ := I.list ha
 obtain ⟨its2, r2, pl2, hz2⟩ := I.list hb
 have l1 := r.length
 have l2 := r2.length
 have h := SeqAt.RcAt.lists (A := A) (e := fun _ => true) pl.isList pl2.isList (by simp only [List.size_toArray]; omega) hu (fun j h1 h2 => by
  simp only [List.size_toArray] at h1 h2
  obtain ⟨x, e, rx⟩ := Qbj r j h1
  obtain ⟨x2, e2, rx2⟩ := Qbj r2 j h2
  simp only [List.getElem_toArray]
  exact I.eqT hu1 (he j x x2 e e2) rx rx2)
 rw [show ((List.range its.toArray.size).all fun _ => true) = true by simp] at h
 exact SeqAt.EqAt.of_refs hab h
theorem op_eqU {cm : Bool} {k : Nat} (hr : Room cm k X.A) : OpR X (compareOp .Eq) (fun x y H Q => ∃ a b xs ys, x = .ref a ∧ y = .ref b ∧ SqT X.K H a xs ∧ SqT X.K H b ys ∧ xs.length = ys.length ∧ (∀ (j : Nat) x y, xs[j]? = some x → ys[j]? = some y → eqT X.K H x y ∨ eqLi X.K H x y) ∧ Q (.bl true) H) := by
 intro pins s σ H x y v u Q I rx ry h
 obtain ⟨a, b, xs, ys, rfl, rfl, ha, hb, hl, he, q⟩ := h
 cases rx
 cases ry
 obtain ⟨its, r, pl, hz⟩ := I.tuple ha
 obtain ⟨its2, r2, pl2, hz2⟩ := I.tuple hb
 have l1 := r.length
 have l2 := r2.length
 have hu : X.A.units < cLine := by have := hr.un; omega
 have hu1 : X.A.in1.units < cLine := by have := hr.un; show X.A.units + 1 < cLine; omega
 have hu2 : X.A.in1.in1.units < cLine := by have := hr.un; show X.A.units + 1 + 1 < cLine; omega
 refine SeqAt.eq_tupleAt (e := fun _ => true) (show s.heap.IsTuple a its.toArray from pl) (show s.heap.IsTuple b its2.toArray from pl2) hu (fun j h1 h2 => ?_) ?_
 ·simp only [List.size_toArray] at h1 h2
  obtain ⟨x, e, rx⟩ := Qbj r j h1
  obtain ⟨x2, e2, rx2⟩ := Qbj r2 j h2
  simp only [List.getElem_toArray]
  rcases he j x x2 e e2 with w | w
  ·exact I.eqT hu1 w rx rx2
  ·exact I.eqLi hu1 hu2 w rx rx2
 ·have hb : ((List.range (min its.toArray.size its2.toArray.size)).all (fun _ => true) && its.toArray.size == its2.toArray.size) = true := by
   simp only [List.size_toArray]
   rw [← l1, ← l2, hl]
   simp
  rw [hb]
  exact ⟨.bl true, H, I, rfl, q⟩
end
end L2
namespace L2
open PySem PySem.W PySem.Spec PyProof.Rows L3
section
variable {X : Cx} {CX : CXT} {cm : Bool} {k : Nat} {E : XK} {m : Str} {pos apos : Pos} {o : Expr} {ta : TE}
end
end L2
namespace L2
open PySem PySem.W PySem.Spec PyProof.Rows L3
section
variable {X : Cx}
end
end L2
namespace L2
open PySem PySem.W PySem.Spec PyProof.Rows L3
section
variable {X : Cx}
end
end L2
namespace L2
open PySem PySem.W PySem.Spec PyProof.Rows L3
section
variable {X : Cx} {CX : CXT} {cm : Bool} {k : Nat} {E : XK} {m : Str} {pos apos : Pos} {o e : Expr} {es : List Expr} {ta : TE} {t : TA}
end
end L2
namespace L2
open PySem PySem.W PySem.Spec PyProof.Rows L3
section
variable {X : Cx}
theorem op_neU {cm : Bool} {k : Nat} (hr : Room cm k X.A) : OpR X (compareOp .NotEq) (fun x y H Q => ∃ a b xs ys, x = .ref a ∧ y = .ref b ∧ SqT X.K H a xs ∧ SqT X.K H b ys ∧ xs.length = ys.length ∧ (∀ (j : Nat) x y, xs[j]? = some x → ys[j]? = some y → eqT X.K H x y ∨ eqLi X.K H x y) ∧ Q (.bl false) H) := by
 intro pins s σ H x y v u Q I rx ry h
 obtain ⟨a, b, xs, ys, rfl, rfl, ha, hb, hl, he, q⟩ := h
 cases rx
 cases ry
 obtain ⟨i1, r1, p1, z1⟩ := I.tuple ha
 obtain ⟨i2, r2, p2, z2⟩ := I.tuple hb
 have n1 := r1.length
 have n2 := r2.length
 have w0 : X.A.units < cLine := by have := hr.un; omega
 have w1 : X.A.in1.units < cLine := by have := hr.un; show X.A.units + 1 < cLine; omega
 have w2 : X.A.in1.in1.units < cLine := by have := hr.un; show X.A.units + 1 + 1 < cLine; omega
 refine SeqAt.RcNeAt.tuples (e := fun _ => true) (show s.heap.IsTuple a i1.toArray from p1) (show s.heap.IsTuple b i2.toArray from p2) w0 (fun j h1 h2 => ?_) _ _ _ _ ?_
 ·simp only [List.size_toArray] at h1 h2
  obtain ⟨x, e, rx⟩ := Qbj r1 j h1
  obtain ⟨x2, e2, rx2⟩ := Qbj r2 j h2
  simp only [List.getElem_toArray]
  rcases he j x x2 e e2 with w | w
  ·exact I.eqT w1 w rx rx2
  ·exact I.eqLi w1 w2 w rx rx2
 ·rw [show ((List.range (min i1.toArray.size i2.toArray.size)).all (fun _ => true) && i1.toArray.size == i2.toArray.size) = true by
   simp only [List.size_toArray]
   rw [← n1, ← n2, hl]
   simp]
  exact ⟨.bl false, H, I, rfl, q⟩
end
end L2
namespace L2
open PySem PySem.W PySem.Spec PyProof.Rows L3
section
variable {X : Cx}
end
end L2
namespace L2
open PySem PySem.W PySem.Spec PyProof.Rows L3
section
variable {X : Cx}
end
end L2
namespace L2
open PySem PySem.W PySem.Spec PyProof.Rows L3
section
variable {X : Cx}
end
end L2
namespace L2
open PySem PySem.W PySem.Spec PyProof.Rows L3
section
variable {prog : Program} {w : World} {s : Shared} {A : Around} {E : Q0} {M : Model}
theorem Qj1 {src : Source} {n : Nat} {Q : Nat → Shared → Prop} (hn : n ≠ 0) (h : ∀ i d, i < n → Q i { s with drawn := d }) : wpAny M A (choose src n) Q E s := fun _ _ _ => ⟨hn, h _ _ (Nat.mod_lt _ (Nat.pos_of_ne_zero hn))⟩
theorem Qd4 {α : Type} : ∀ {l : List α} {i : Nat} (h : i < l.length), (l[i] :: l.eraseIdx i).Perm l
 | a :: r, 0, _ => .refl _
 | a :: r, i + 1, h => by
   have := Qd4 (l := r) (i := i) (by simpa using h)
   exact (List.Perm.swap _ _ _).trans (this.cons a)
theorem Qdu {α : Type} : ∀ (n : Nat) (xs : List α) (s : Shared) (Q : List α → Shared → Prop), xs.length = n → (∀ ys d, ys.Perm xs → Q ys { s with drawn := d }) → wpAny M A (drawOrder n xs) Q E s
 | 0, xs, s, Q, hl, h => by
   have : xs = [] := List.eq_nil_of_length_eq_zero hl
   subst this
   exact wpAny_pure (h [] s.drawn .nil)
 | n + 1, [], s, Q, hl, h => by cases hl
 | n + 1, x :: r, s, Q, hl, h => by
   have e : drawOrder (n + 1) (x :: r) = (do let i ← choose .order (x :: r).length; match (x :: r)[i]? with | some y => return y :: (← drawOrder n ((x :: r).eraseIdx i)) | none => unsupported "internal:drawOrder") := rfl
   rw [e]
   refine wpAny_bind (Qj1 (by simp) fun i d hi => ?_)
   rw [List.getElem?_eq_getElem hi]
   refine wpAny_bind (Qdu n _ _ _ (by rw [List.length_eraseIdx, if_pos hi]; omega) fun ys d2 hp => wpAny_pure (h _ d2 ?_))
   exact (hp.cons _).trans (Qd4 hi)
def strOf : Value → Str
 | .str x _ => x
 | _ => ""
def ksOf (es : Array (Int × Value)) : List Str := es.toList.map fun e => strOf e.2
structure StrS (prog : Program) (w : World) (h : Heap) (a : Addr) (es : Array (Int × Value)) (ep : Nat) (t : SetTable) : Prop where
 ob : ∃ o, h.get? a = some o ∧ o.ExactSet ∧ o.data = .set es ep t
 el : ElemsOf (strKind prog w) es.toList
 ft : t.fits es.size = true
 pl : es.size = 0 ∨ t.plain = false
 ld : t.led = !w.params.followText "set-order"
 sm : es.size < scanBound
theorem Qm1 (t : SetTable) (es : Array (Int × Value)) (h : Int) (x : Value) : (layNew t es h x).2.1.led = t.led := by
 unfold layNew SetTable.put SetTable.orStandIn SetTable.standIn
 split
 ·dsimp only
  (repeat' split) <;> rfl
 ·rfl
theorem Qia (t : SetTable) (es : Array (Int × Value)) (n : Nat) (hp : t.plain = false) : (relayAll t es n).2.1.led = t.led ∧ (relayAll t es n).2.1.plain = false := by
 unfold relayAll
 cases hr : t.relaid (es.map (·.1)) n with
 | none => exact ⟨rfl, rfl⟩
 | some q =>
   obtain ⟨t', o⟩ := q
   have ht : t'.led = t.led ∧ t'.plain = t.plain := by
    unfold SetTable.relaid SetTable.laid at hr
    cases hc : SetTable.layClean (SetTable.sizeAbove n - 1) (es.map (·.1)) with
    | none => rw [hc] at hr; cases hr
    | some ow =>
      rw [hc] at hr
      have := Option.some.inj hr
      have h1 := congrArg Prod.fst this
      dsimp only at h1
      rw [← h1]
      exact ⟨rfl, rfl⟩
   dsimp only
   split
   ·exact ⟨ht.1, ht.2.trans hp⟩
   ·exact ⟨rfl, rfl⟩
theorem Qlq {es : Array (Int × Value)} (hel : ElemsOf (strKind prog w) es.toList) (k : Str) : k ∈ ksOf es ↔ ∃ e ∈ es.toList, (strKind prog w).is k e.2 = true := by
 unfold ksOf
 rw [List.mem_map]
 constructor
 ·rintro ⟨e, he, rfl⟩
  refine ⟨e, he, ?_⟩
  obtain ⟨⟨k, hk, _⟩, _⟩ := hel e he
  obtain ⟨t, ht⟩ := Value.isStrOf_shape hk
  rw [ht]
  exact strKind_is _ _ _ _
 ·rintro ⟨e, he, hk⟩
  obtain ⟨t, ht⟩ := Value.isStrOf_shape hk
  exact ⟨e, he, by rw [ht]; rfl⟩
theorem StrS.same {h h' : Heap} {a : Addr} {es : Array (Int × Value)} {ep : Nat} {t : SetTable} (x : StrS prog w h a es ep t) (k : ∀ o, h.get? a = some o → h'.get? a = some o) : StrS prog w h' a es ep t := by
 obtain ⟨⟨o, ho, r⟩, q1, q2, q3, q4, q5⟩ := x
 exact ⟨⟨o, k o ho, r⟩, q1, q2, q3, q4, q5⟩
theorem Qe5 {h : Heap} {a : Addr} {es es' : Array (Int × Value)} {ep : Nat} {t t' : SetTable} {o : Obj} (ho : h.get? a = some o) (hx : o.ExactSet) (hd : o.data = .set es ep t) (h1 : ElemsOf (strKind prog w) es'.toList) (h2 : t'.fits es'.size = true) (h3 : t'.plain = false) (h4 : t'.led = !w.params.followText "set-order") (h5 : es'.size < scanBound) :
 StrS prog w (h.update a (Obj.putSet es' t')) a es' (ep + 1) t' := by
 refine ⟨⟨_, (SetOf_store (knd := strKind prog w) (S' := fun k => decide (∃ e ∈ es'.toList, (strKind prog w).is k e.2 = true)) ho hx hd h1 (fun k => by simp) h5 h2).1, hx, rfl⟩, h1, h2, .inr h3, h4, h5⟩
theorem Qmd {a : Addr} {es : Array (Int × Value)} {ep : Nat} {t : SetTable} {k : Str} {tk : Tok} {Q : Bool → Shared → Prop} (S : StrS prog w s.heap a es ep t) (room : es.size + 1 < scanBound)
 (h : ∀ h' es' ep' t' b, Heap.SameBut a s.heap h' → StrS prog w h' a es' ep' t' → ((k ∈ ksOf es ∧ es' = es) ∨ (k ∉ ksOf es ∧ es'.size = es.size + 1 ∧ (ksOf es').Perm (ksOf es ++ [k]))) → Q b { s with heap := h' }) :
 wpAny (model prog w) A (setAddHashed a (.str k tk) ((strKind prog w).hash k)) Q E s := by
 obtain ⟨⟨o, ho, hx, hd⟩, hel, hft, hpl, hld, hsm⟩ := id S
 have hk : (strKind prog w).is k (.str k tk) = true := strKind_is _ _ _ _
 have hsc : (Value.str k tk).scannable = true := rfl
 unfold setAddHashed setAddHashedIn; refine wpAny_holding (wpAny_bind (wpAny_setState_of ho hd hft ?_))
 dsimp only; rw [byScan_of hsc hsm hel]; simp only [↓reduceIte]
 unfold setAddByScan; refine wpAny_bind (wpAny_bind (wpAny_rule (wpAny_bind (wpAny_setScan_of hk ho hd hft hel ?_))))
 cases hr : List.findIdx? (fun e => (strKind prog w).is k e.2) es.toList with
 | some j =>
   obtain ⟨hj, hpj, _⟩ := List.findIdx?_eq_some_iff_getElem.mp hr
   have hin : k ∈ ksOf es := (Qlq hel k).mpr ⟨_, List.getElem_mem hj, hpj⟩
   have es_ : s = { s with heap := s.heap } := rfl
   exact wpAny_pure (wpAny_pure (h s.heap es ep t false (Heap.SameBut.refl a s.heap) S (.inl ⟨hin, rfl⟩)))
 | none =>
   have hnot : k ∉ ksOf es := fun m => by
    obtain ⟨e, he, hp⟩ := (Qlq hel k).mp m
    have := List.findIdx?_eq_none_iff.mp hr e he
    rw [hp] at this
    cases this
   have P1 := layNew_perm t es ((strKind prog w).hash k) (.str k tk)
   have F1 := layNew_fits t es ((strKind prog w).hash k) (.str k tk)
   have L1 := Qm1 t es ((strKind prog w).hash k) (.str k tk)
   dsimp only
   generalize layNew t es ((strKind prog w).hash k) (.str k tk) = La at P1 F1 L1 ⊢
   obtain ⟨e1, t1, wd, gv⟩ := La
   dsimp only at P1 F1 L1 ⊢
   rw [Array.toList_push] at P1
   have el1 : ElemsOf (strKind prog w) e1.toList := (hel.push hk hsc).perm P1
   have sz1 : e1.size = es.size + 1 := by
    have := P1.length_eq
    rw [List.length_append, Array.length_toList, Array.length_toList] at this
    exact this
   have kp1 : (ksOf e1).Perm (ksOf es ++ [k]) := by
    have := P1.map (fun e => strOf e.2)
    rw [List.map_append] at this
    exact this
   have gw : ∀ (b : Bool) {s1 : Shared} {Q1 : Unit → Shared → Prop}, Q1 () s1 → wpAny (model prog w) A (match b with | true => rule "set.scan.the-table-gave-way" | false => pure ()) Q1 E s1 := fun b _ _ hq => by
    cases b
    ·exact wpAny_pure hq
    ·exact wpAny_rule hq
   refine wpAny_bind (gw gv ?_)
   obtain ⟨t2, et2, f2, l2, p2⟩ : ∃ t2 : SetTable, t2 = { t1 with plain := false } ∧ t2.fits e1.size = true ∧ t2.led = t.led ∧ t2.plain = false := ⟨_, rfl, SetTable.fits_plain_off F1, L1, rfl⟩
   have tail : ∀ {R : Option Bool → Shared → Prop}, (∀ h' es' ep' t', Heap.SameBut a s.heap h' → StrS prog w h' a es' ep' t' → es'.size = es.size + 1 → (ksOf es').Perm (ksOf es ++ [k]) → R (some true) { s with heap := h' }) →
    wpAny (model prog w) A (do
     storeSet a e1 t2
     if (!wd && t2.tooFull) = true then do
         (match (relayAll t2 e1 (SetTable.grown e1.size)).2.2 with | true => rule "set.scan.the-table-gave-way" | false => pure ())
         storeSet a (relayAll t2 e1 (SetTable.grown e1.size)).1 (relayAll t2 e1 (SetTable.grown e1.size)).2.1
         pure (some true)
      else pure (some true)) R E s := fun {R} hR => by
    have b1 : e1.size < scanBound := by omega
    refine wpAny_bind (wpAny_storeSet_of ho hd ?_ (fits_of_scanBound b1))
    have S1 := Qe5 (prog := prog) (w := w) ho hx hd el1 f2 p2 (l2.trans hld) b1
    have sb1 := Heap.SameBut.update s.heap a (Obj.putSet e1 t2)
    split
    ·have P2 := relayAll_perm t2 e1 (SetTable.grown e1.size)
     have F2 := relayAll_fits t2 e1 (SetTable.grown e1.size)
     have L2_ := Qia t2 e1 (SetTable.grown e1.size) p2
     generalize relayAll t2 e1 (SetTable.grown e1.size) = Rl at P2 F2 L2_ ⊢
     obtain ⟨e2, t3, g2⟩ := Rl
     dsimp only at P2 F2 L2_ ⊢
     have sz2 : e2.size = e1.size := by
      have := P2.length_eq
      rw [Array.length_toList, Array.length_toList] at this
      exact this
     refine wpAny_bind (gw g2 ?_)
     obtain ⟨o1, ho1, hx1, hd1⟩ := S1.ob
     refine wpAny_bind (wpAny_storeSet_of ho1 hd1 ?_ (fits_of_scanBound (by omega)))
     have S2 := Qe5 (prog := prog) (w := w) ho1 hx1 hd1 (el1.perm P2) F2 L2_.2 (L2_.1.trans (l2.trans hld)) (by omega)
     exact wpAny_pure (hR _ e2 _ t3 (sb1.trans (Heap.SameBut.update _ a _)) S2 (by omega) ((P2.map _).trans kp1))
    ·exact wpAny_pure (hR _ e1 _ t2 sb1 S1 sz1 kp1)
   have fin : ∀ h' es' ep' t', Heap.SameBut a s.heap h' → StrS prog w h' a es' ep' t' → es'.size = es.size + 1 → (ksOf es').Perm (ksOf es ++ [k]) → wpAny (model prog w) A (pure true) Q E { s with heap := h' } := fun h' es' ep' t' c1 c2 c3 c4 => wpAny_pure (h h' es' ep' t' true c1 c2 (.inr ⟨hnot, c3, c4⟩))
   split
   ·rename_i hp
    rw [hashByValue_scannable 8 hsc]
    refine wpAny_bind (wpAny_pure ?_)
    have := tail (R := fun r s' => wpAny (model prog w) A (match r with | some added => pure added | none => setAddHashedIn a (.str k tk) ((strKind prog w).hash k) 99999) Q E s') (fun h' es' ep' t' c1 c2 c3 c4 => fin h' es' ep' t' c1 c2 c3 c4)
    rw [et2] at this
    exact this
   ·rename_i hp
    refine wpAny_bind (wpAny_pure ?_)
    have e12 : t1 = t2 := by
     rw [et2]
     cases t1
     simp at hp
     simp [hp]
    have := tail (R := fun r s' => wpAny (model prog w) A (match r with | some added => pure added | none => setAddHashedIn a (.str k tk) ((strKind prog w).hash k) 99999) Q E s') (fun h' es' ep' t' c1 c2 c3 c4 => fin h' es' ep' t' c1 c2 c3 c4)
    rw [← e12] at this
    exact this
end
end L2
namespace L2
open PySem PySem.W PySem.Spec PyProof.Rows L3
section
variable {prog : Program} {w : World} {A : Around} {R : Result → Shared → Prop} {I : Addr} {fp wr : List Addr} {G : Array GenState → Array GenState → Prop} {n : Nat} {P : Nat → Value → Prop} {St : Nat → Shared → Prop}
theorem Qj6 (W : WalksS prog w A.in1 I fp wr G n P St) (S : Addr) (hSf : S ∉ fp) (ss : Nat → Str) (hval : ∀ i v, P i v → ∃ t, v = .str (ss i) t) (hb : n + 1 < scanBound) :
 ∀ (k i : Nat) (s : Shared) (es : Array (Int × Value)) (ep : Nat) (t : SetTable), n - i = k → i ≤ n → St i s → StrS prog w s.heap S es ep t → es.size ≤ i → (ksOf es).Nodup → (∀ x, x ∈ ksOf es ↔ ∃ j, j < i ∧ ss j = x) →
   (∀ s' es' ep' t', Moved (S :: wr) G s s' → StrS prog w s'.heap S es' ep' t' → es'.size ≤ n → (ksOf es').Nodup → (∀ x, x ∈ ksOf es' ↔ ∃ j, j < n ∧ ss j = x) → R (.ok (.ret .none)) s') →
   codeAny (model prog w) A (.builtin "set.update.loop" ⟨[.ref S, .ref I], []⟩) R s := by
 have nSw : S ∉ wr := fun z => hSf (W.sub _ z)
 have inc : ∀ b ∈ wr, b ∈ S :: wr := fun b z => .tail _ z
 intro k; induction k with
 | zero =>
   intro i s es ep t hk hi hst X hsz nd mm fin; have ei : i = n := by omega
   subst ei; refine codeAny_builtin F.entry_set_update_loop ?_; rw [Around.under_plainId F.plain_set_update_loop _]; show wpAny _ A.in1 (pyNext (.ref I) >>= _) _ _ s
   refine wpAny_bind (W.done s _ _ hst fun s' hm => ?_); show wpAny _ A.in1 (ret Value.none) _ _ s'
   exact wpAny_pure (fin s' es ep t (hm.mono inc) (X.same fun o e => hm.heap S _ nSw e) hsz nd mm)
 | succ k ih =>
   intro i s es ep t hk hi hst X hsz nd mm fin; have lt : i < n := by omega
   refine codeAny_builtin F.entry_set_update_loop ?_; rw [Around.under_plainId F.plain_set_update_loop _]; show wpAny _ A.in1 (pyNext (.ref I) >>= _) _ _ s
   refine wpAny_bind (W.item i s _ _ lt hst fun v s1 hP hst1 hm => ?_)
   obtain ⟨tk, rfl⟩ := hval i v hP
   have X1 := X.same (h' := s1.heap) fun o e => hm.heap S _ nSw e
   show wpAny _ A.in1 (holding [Value.str (ss i) tk] (setAdd S (.str (ss i) tk)) >>= _) _ _ s1
   refine wpAny_bind (wpAny_holding ?_); unfold setAdd
   refine wpAny_holding (wpAny_bind ((strKind prog w).pyHash (k := ss i) (strKind_is _ _ _ _) ?_))
   refine Qmd (s := { s1 with toks := s1.toks + 1 }) X1 (by omega) fun h2 es2 ep2 t2 b sb X2 hc => ?_
   have nd2 : (ksOf es2).Nodup := by
    rcases hc with ⟨_, rfl⟩ | ⟨hn, _, hp⟩
    ·exact nd
    ·refine hp.nodup_iff.mpr (List.nodup_append.mpr ⟨nd, List.nodup_cons.mpr ⟨List.not_mem_nil, List.nodup_nil⟩, fun x hx y hy e => ?_⟩)
     rw [List.mem_singleton.mp hy] at e
     exact hn (by rw [← e]; exact hx)
   have mm2 : ∀ x, x ∈ ksOf es2 ↔ ∃ j, j < i + 1 ∧ ss j = x := fun x => by
    have h0 : (∃ j, j < i + 1 ∧ ss j = x) ↔ x ∈ ksOf es ∨ x = ss i := by
     rw [mm x]
     constructor
     ·rintro ⟨j, hj, e⟩
      by_cases z : j = i
      ·subst z
       exact .inr e.symm
      ·exact .inl ⟨j, by omega, e⟩
     ·rintro (⟨j, hj, e⟩ | e)
      ·exact ⟨j, by omega, e⟩
      ·exact ⟨i, by omega, e.symm⟩
    rw [h0]
    rcases hc with ⟨hn, rfl⟩ | ⟨hn, _, hp⟩
    ·exact ⟨.inl, fun h => h.elim id fun e => by rw [e]; exact hn⟩
    ·rw [hp.mem_iff, List.mem_append, List.mem_singleton]
   have sz2 : es2.size ≤ i + 1 := by
    rcases hc with ⟨_, rfl⟩ | ⟨_, hz, _⟩ <;> omega
   refine wpAny_pure ⟨plainId_quiet F.plain_set_update_loop _, ih (i + 1) { s1 with heap := h2, toks := s1.toks + 1 } es2 ep2 t2 (by omega) lt (W.frame _ s1 _ _ hst1 (Nat.le_succ _) fun c hc o e => ?_) X2 sz2 nd2 mm2 fun s3 es3 ep3 t3 hm3 X3 sz3 nd3 mm3 => ?_⟩
   ·rw [sb.2 c (fun z : c = S => hSf (by rw [← z]; exact hc))]
    exact e
   ·refine fin s3 es3 ep3 t3 (Moved.trans W.gtrans ((hm.mono inc).then_heap (Nat.le_succ _) fun c o hc e => ?_) hm3) X3 sz3 nd3 mm3
    rw [sb.2 c (fun z : c = S => hc (by rw [z]; exact .head _))]
    exact e
end
section
variable {prog : Program} {w : World} {A : Around} {E : Q0} {s : Shared}
theorem Qmg (a : Value) {Q1 : Q0} (h : Q1 (.ref s.heap.objs.size) { s with heap := s.heap.push { cls := .type "set", dict := none, data := .set #[] 0 (.fresh 0 0 (!w.params.followText "set-order")) } }) :
 codeAny (model prog w) A (.call (.builtin "set.__new__") ⟨[.type "set", a], []⟩) (wants Q1 E) s := by
 refine codeAny_of_tree ?_; show wpAny _ A.in1 (do checkBuiltinCall "set.__new__" ⟨[.type "set", a], []⟩; again (.builtin "set.__new__" ⟨[.type "set", a], []⟩)) _ _ s
 refine wpAny_bind (wpAny_of_eq (F.newCall_set_1 a) (wpAny_pure ⟨plainId_quiet F.plain_set_new _, codeAny_builtin F.entry_set_new ?_⟩)); rw [Around.under_plainId F.plain_set_new _]
 unfold Builtin.«set.__new__» Builtin.Frozenset.newClass; have hsub := sub_set_self
 obtain ⟨hp, g, d, tk, os⟩ := s
 dsimp only; wp_walk
 refine wpAny_askSetting (wpAny_pure ?_); dsimp only; simp only [newObj]
 exact wpAny_bind (wpAny_alloc (wpAny_pure (wpAny_pure h)))
set_option maxHeartbeats 3200000 in
theorem Qka {l : Addr} {items : Array Value} {ss : Nat → Str} {Q : Q0} (hh : A.handled = none) (hl : s.heap.IsList l items) (hi : ∀ (i : Nat) v, items[i]? = some v → ∃ t, v = .str (ss i) t) (hb : items.size + 1 < scanBound)
 (h : ∀ (h' : Heap) (tk : Nat) es ep t, StrS prog w h' s.heap.objs.size es ep t → es.size ≤ items.size → (ksOf es).Nodup → (∀ x, x ∈ ksOf es ↔ ∃ j, j < items.size ∧ ss j = x) → (∀ b o, b < s.heap.objs.size → s.heap.get? b = some o → h'.get? b = some o) → Q (.ref s.heap.objs.size) { s with heap := h', toks := tk }) :
 wpAny (model prog w) A (call (.type "set") [.ref l]) Q E s := by
 obtain ⟨c, tl, hmro⟩ := F.called_set.mro; have hmade := F.called_set.made; have hsub := F.called_set.sub
 refine wpAny_call (codeAny_of_tree ?_); show wpAny _ _ (callAny (.type "set") _) _ _ _
 refine wpAny_pure ⟨Code.quiet_builtin _ (by decide+kernel), codeAny_builtin F.entry_type_call ?_⟩; rw [Around.under_plain (weight_type_call_type "set" [.ref l] []) rfl]
 have q1 := F.called_set.notType; have q2 := F.called_set.canCreate; have q3 := F.typeCall_set_1 (.ref l); repeat (any_goals (first | assumption | wp_step))
 refine codeAny_mono (Qmg (.ref l) (E := E) (Q1 := fun v s1 => v = .ref s.heap.objs.size ∧ s1 = { s with heap := s.heap.push { cls := .type "set", dict := none, data := .set #[] 0 (.fresh 0 0 (!w.params.followText "set-order")) } }) ⟨rfl, rfl⟩) fun r s1 hr => ?_
 cases r with
 | error e => exact hr
 | ok fl =>
   cases fl with
   | ret ob =>
     obtain ⟨rfl, rfl⟩ := hr
     have gS : (s.heap.push { cls := .type "set", dict := none, data := .set #[] 0 (.fresh 0 0 (!w.params.followText "set-order")) }).get? s.heap.objs.size = some { cls := .type "set", dict := none, data := .set #[] 0 (.fresh 0 0 (!w.params.followText "set-order")) } := Heap.get?_push_size _ rfl
     have tS : Shared.TypeIs { s with heap := s.heap.push { cls := .type "set", dict := none, data := .set #[] 0 (.fresh 0 0 (!w.params.followText "set-order")) } } (.ref s.heap.objs.size) "set" := ⟨_, gS, rfl⟩
     have q4 := F.called_set.init.lookup; have q5 := F.called_set.init.bind (.ref s.heap.objs.size); repeat (any_goals (first | assumption | wp_step))
     refine codeAny_mono (codeAny_call_builtin (R := wants (fun r s2 => r = .none ∧ ∃ h' tk es ep t, s2 = { s with heap := h', toks := tk } ∧ StrS prog w h' s.heap.objs.size es ep t ∧ es.size ≤ items.size ∧ (ksOf es).Nodup ∧ (∀ x, x ∈ ksOf es ↔ ∃ j, j < items.size ∧ ss j = x) ∧ (∀ b o, b < s.heap.objs.size → s.heap.get? b = some o → h'.get? b = some o)) E) F.called_set.init.plain F.entry_set_init (check_set_init_1 tS ?_)) fun r2 s2 hr2 => ?_
     ·obtain ⟨ol, hol, hcl, nl, hdl⟩ := hl
      obtain ⟨ocls, odict, odata, oslots⟩ := ol
      simp only at hcl hdl
      subst hcl hdl
      have hol1 : (s.heap.push { cls := .type "set", dict := none, data := .set #[] 0 (.fresh 0 0 (!w.params.followText "set-order")) }).get? l = some { cls := .type "list", dict := odict, data := .seq items nl, slots := oslots } := Heap.get?_push_of_some _ hol
      have q6 := F.sub_list_set; have q7 := F.sub_list_frozenset
      have q8 : (Value.type "list" == Value.type "dict") = false := by decide
      have hl1 : (s.heap.push { cls := .type "set", dict := none, data := .set #[] 0 (.fresh 0 0 (!w.params.followText "set-order")) }).IsList l items := ⟨_, hol1, rfl, nl, rfl⟩
      unfold Builtin.«set.__init__» noKeywords Builtin.Frozenset.updateFrom; generalize hPI : pyIter = PI; wp_walk; subst hPI
      refine wpAny_pyIter_list hl1 ?_; refine wpAny_bind (wpAny_runValue ?_)
      have lS : l < s.heap.objs.size := Heap.lt_size hol
      have h3 : A.in1.in1.in1.handled = none := by simp [hh]
      have nI : l ≠ (s.heap.push { cls := .type "set", dict := none, data := .set #[] 0 (.fresh 0 0 (!w.params.followText "set-order")) }).objs.size := by rw [Heap.size_push]; exact Nat.ne_of_lt (Nat.lt_succ_of_lt lS)
      have nS : s.heap.objs.size ∉ [(s.heap.push { cls := .type "set", dict := none, data := .set #[] 0 (.fresh 0 0 (!w.params.followText "set-order")) }).objs.size, l] := by
       rw [Heap.size_push]; simp only [List.mem_cons, List.not_mem_nil, or_false, not_or]
       exact ⟨Nat.ne_of_lt (Nat.lt_succ_self _), Nat.ne_of_gt lS⟩
      have X0 : StrS prog w ((s.heap.push { cls := .type "set", dict := none, data := .set #[] 0 (.fresh 0 0 (!w.params.followText "set-order")) }).push { cls := .type "list_iterator", data := .fields #[.ref l, .int 0 0] }) s.heap.objs.size #[] 0 (.fresh 0 0 (!w.params.followText "set-order")) :=
       ⟨⟨_, Heap.get?_push_of_some _ gS, ⟨rfl, rfl, rfl⟩, rfl⟩, (fun e he => by simp at he), rfl, .inl rfl, rfl, by unfold scanBound; decide⟩
      refine Qj6 ((Walks.list h3 _ l nI items).toS) s.heap.objs.size nS ss hi hb (items.size - 0) 0 _ #[] 0 _ (by omega) (Nat.zero_le _) ⟨⟨_, Heap.get?_push_size _ rfl, rfl, rfl⟩, (hl1.push _)⟩ X0 (Nat.le_refl _) List.nodup_nil (fun x => ⟨fun z => (by cases z), fun ⟨j, hj, _⟩ => absurd hj (Nat.not_lt_zero _)⟩) fun s' es ep t hm X sz nd mm => ?_
      obtain ⟨h', g', d', tk', os'⟩ := s'
      have z1 : g' = s.gens := hm.gens; have z2 : d' = s.drawn := hm.drawn; have z3 : os' = s.os := hm.os; subst z1 z2 z3
      show wpAny _ _ _ _ _ _; refine wpAny_pure ?_; show wpAny _ _ (ret Value.none) _ _ _
      refine wpAny_pure ⟨rfl, h', tk', es, ep, t, rfl, X, sz, nd, mm, fun b o hb e => hm.heap b o ?_ (Heap.get?_push_of_some _ (Heap.get?_push_of_some _ e))⟩
      simp only [List.mem_cons, List.not_mem_nil, or_false, not_or, Heap.size_push]
      exact ⟨Nat.ne_of_lt hb, Nat.ne_of_lt (Nat.lt_succ_of_lt hb)⟩
     ·cases r2 with
      | error e => exact hr2
      | ok f2 =>
        cases f2 with
        | ret r =>
          obtain ⟨rfl, h', tk, es, ep, t, rfl, X, sz, nd, mm, kk⟩ := hr2; repeat (any_goals (first | assumption | wp_step))
          exact h _ _ es ep t X sz nd mm kk
        | _ => exact hr2.elim
   | _ => exact hr.elim
end
end L2
namespace L2
open PySem PySem.W PySem.Spec PyProof.Rows L3
section
variable {prog : Program} {w : World} {A : Around} {E : Q0} {s : Shared}
theorem Qng : entryFor table "set.__iter__" = some Builtin.«frozenset.__iter__» := entryFor_alias (id' := "frozenset.__iter__") (by kernel_rfl) rfl (by decide+kernel) (by kernel_rfl)
theorem ow_si : Manifest.owners.lookup (String.ofList ['r', 'o', 't', 'a', 'r', 'e', 't', 'i', '_', 't', 'e', 's'].reverse) = some Manifest.sig_set_iterator := by kernel_rfl
theorem Qfw : Slot "set_iterator" "__next__" "set_iterator.__next__" := .of (owner := "set_iterator") (n := "__next__") (by rw [typeLookup_type, builtinLookup_eq_fast]; kernel_rfl) (by decide+kernel) (by decide+kernel) (by decide+kernel) (by first | exact .inl (by decide+kernel) | exact .inr (by decide+kernel)) (by rw [isSubtype_type]; kernel_rfl)
theorem en_si : entryFor table "set_iterator.__next__" = some Builtin.«set_iterator.__next__» := entryFor_of_tree (by kernel_rfl)
theorem ar_si (a : Value) : argsOk "set_iterator.__next__" ⟨[a], []⟩ := by unfold argsOk; rw [signature?_of (id := "set_iterator.__next__") (n := ['_', '_', 't', 'x', 'e', 'n', '_', '_']) (o := ['r', 'o', 't', 'a', 'r', 'e', 't', 'i', '_', 't', 'e', 's']) (by kernel_rfl) ow_si]; kernel_rfl
theorem Qlc : Slot "set_iterator" "__iter__" "set_iterator.__iter__" := .of (owner := "set_iterator") (n := "__iter__") (by rw [typeLookup_type, builtinLookup_eq_fast]; kernel_rfl) (by decide+kernel) (by decide+kernel) (by decide+kernel) (by first | exact .inl (by decide+kernel) | exact .inr (by decide+kernel)) (by rw [isSubtype_type]; kernel_rfl)
theorem en_si2 : entryFor table "set_iterator.__iter__" = some Builtin.«dict_keyiterator.__iter__» := entryFor_alias (id' := "dict_keyiterator.__iter__") (by kernel_rfl) rfl (by decide+kernel) (by kernel_rfl)
theorem ar_si2 (a : Value) : argsOk "set_iterator.__iter__" ⟨[a], []⟩ := by unfold argsOk; rw [signature?_of (id := "set_iterator.__iter__") (n := ['_', '_', 'r', 'e', 't', 'i', '_', '_']) (o := ['r', 'o', 't', 'a', 'r', 'e', 't', 'i', '_', 't', 'e', 's']) (by kernel_rfl) ow_si]; kernel_rfl
def siO (first sv : Value) (i n ep : Nat) : Obj := { cls := .type "set_iterator", data := .fields #[first, .int i 0, sv, .int n 0, .int ep 0] }
theorem Qcw {I : Addr} {f v : Value} {i n ep : Nat} (h : s.heap.get? I = some (siO f v i n ep)) : s.TypeIs (.ref I) "set_iterator" := ⟨_, h, rfl⟩
theorem Qfx {I : Addr} {f v : Value} {i n ep : Nat} {Q : Q0} (h : s.heap.get? I = some (siO f v i n ep)) (q : Q (.ref I) s) : wpAny (model prog w) A (pyIter (.ref I)) Q E s := by
 refine wpAny_pyIter_slot (Qcw h) Qlc (wpAny_call_entry Qlc (Qcw h) en_si2 ?_ (ar_si2 _))
 show wpAny _ _ (ret (.ref I)) _ _ s
 exact wpAny_pure ⟨_, rfl, "set_iterator", _, Qcw h, Qfw.lookup, q⟩
theorem StrS.typeIs {a : Addr} {es : Array (Int × Value)} {ep : Nat} {t : SetTable} (X : StrS prog w s.heap a es ep t) : s.TypeIs (.ref a) "set" := by
 obtain ⟨o, ho, hx, hd⟩ := X.ob
 exact ⟨o, ho, hx.1⟩
theorem Qig {α : Type} (f : Nat → Nat) : ∀ (n k : Nat) (l : List α) (out : Array α), l.length = n → ∃ r, (pickOrder.go f n k l out).toList = out.toList ++ r ∧ r.Perm l
 | 0, k, l, out, h => by
   have : l = [] := List.eq_nil_of_length_eq_zero h
   subst this
   exact ⟨[], by simp [pickOrder.go], .nil⟩
 | n + 1, k, l, out, h => by
   have hp : f k % l.length < l.length := Nat.mod_lt _ (by omega)
   obtain ⟨r, h1, h2⟩ := Qig f n (k + 1) (l.eraseIdx (f k % l.length)) (out.push l[f k % l.length]) (by rw [List.length_eraseIdx, if_pos hp]; omega)
   refine ⟨l[f k % l.length] :: r, ?_, (h2.cons _).trans (Qd4 hp)⟩
   rw [pickOrder.go, List.getElem?_eq_getElem hp]
   dsimp only
   rw [h1, Array.toList_push, List.append_assoc]
   rfl
theorem Qif {α : Type} (f : Nat → Nat) (xs : Array α) : (pickOrder f xs).toList.Perm xs.toList := by
 obtain ⟨r, h1, h2⟩ := Qig f xs.size 0 xs.toList #[] (by simp)
 unfold pickOrder
 rw [h1]
 simpa using h2
theorem Qgi {Q : Option Value → Shared → Prop} (hh : A.handled = none) (q : ∀ h', (∀ b o, s.heap.get? b = some o → h'.get? b = some o) → Q none { s with heap := h' }) :
 wpAny (model prog w) A.in1 (do let e ← newExc (Value.type "StopIteration") []; raiseNew e) (fun fin s' => ∃ v, fin = Fin.done (Flow.ret v) ∧ wpAny (model prog w) A (pure (some v)) Q E s') (fun e s' => wpAny (model prog w) A (do let b ← isInstance e (Value.type "StopIteration"); if b = true then pure none else throw e) Q E s') s := by
 refine wpAny_bind ?_
 simp only [newExc, newTuple]
 refine wpAny_bind (wpAny_newObj_type ?_ (by size_fits)); refine wpAny_bind (m := firstArgMember _ _) (wpAny_of_eq (a := Value.none) (by first | rfl | (simp only [firstArgMember]; rfl)) ?_)
 refine wpAny_newObj_type ?_ (by size_fits); simp only [raiseNew]
 refine wpAny_bind (wpAny_handled ?_); rw [show A.in1.handled = none from hh]; refine wpAny_bind (wpAny_pure (wpAny_throw ?_))
 refine wpAny_bind (wpAny_isInstance (T := "StopIteration") (b := true) ⟨_, Heap.get?_push_size _ rfl, rfl⟩ isSubtype_stop (wpAny_pure (q _ fun b o e => ?_)))
 exact Heap.get?_push_of_some _ (Heap.get?_push_of_some _ e)
theorem Qh4 {I : Addr} {f v x : Value} {i n ep : Nat} {h : Heap} (e : h.get? I = some (siO f v i n ep)) (k : Nat) (hk : k < 5) : (h.update I (Obj.mapFields (·.setIfInBounds k x))).get? I = some { cls := .type "set_iterator", data := .fields ((#[f, .int i 0, v, .int n 0, .int ep 0] : Array Value).setIfInBounds k x) } := by
 have := Heap.get?_update_self (Obj.mapFields (·.setIfInBounds k x)) e (by rfl)
 exact this
theorem Qek {I S : Addr} {es : Array (Int × Value)} {ep i slot : Nat} {t : SetTable} {Q : Option Value → Shared → Prop} (hh : A.handled = none) (X : StrS prog w s.heap S es ep t) (h : s.heap.get? I = some (siO (.int slot 0) (.ref S) i es.size ep)) (r : Option (Value × Nat))
 (nx : ∀ (R : Option (Value × Nat) → Shared → Prop) (E1 : Q0), R r s → wpAny (model prog w) A.in1 (setNext S slot i ep) R E1 s)
 (q1 : ∀ x nt, r = some (x, nt) → ∀ h', h'.get? I = some (siO (.int nt 0) (.ref S) (i + 1) es.size ep) → (∀ b o, b ≠ I → s.heap.get? b = some o → h'.get? b = some o) → Q (some x) { s with heap := h' })
 (q2 : r = none → ∀ h', (∀ b o, b ≠ I → s.heap.get? b = some o → h'.get? b = some o) → Q none { s with heap := h' }) : wpAny (model prog w) A (pyNext (.ref I)) Q E s := by
 obtain ⟨o, ho, hx, hd⟩ := X.ob
 unfold pyNext
 refine wpAny_bind (wpAny_attempt (wpAny_callSpecial?_slot (name := Str.ofString "__next__") (Qcw h) Qfw (wpAny_call_entry Qfw (Qcw h) en_si ?_ (ar_si _))))
 unfold Builtin.«set_iterator.__next__»; refine wpAny_bind (wpAny_pure (wpAny_bind (wpAny_fieldsOf h rfl ?_)))
 dsimp only; refine wpAny_bind (wpAny_setEntries_of ho hd X.ft ?_)
 rw [if_neg (by simp)]; refine wpAny_bind ?_
 simp only [Int.toNat_natCast]
 refine nx _ _ ?_
 cases r with
 | none =>
   dsimp only
   refine wpAny_bind (wpAny_setField h rfl (by simp) ?_)
   refine Qgi hh fun h' k => q2 rfl h' fun b o hb e => k b o ?_
   exact ((Heap.SameBut.update s.heap I _).2 b hb).trans e
 | some p =>
   obtain ⟨x, nt⟩ := p
   dsimp only
   refine wpAny_bind (wpAny_setField h rfl (by simp) ?_)
   have e1 := Qh4 (x := rawInt (nt : Int)) h 0 (by decide)
   refine wpAny_bind (wpAny_setField e1 rfl (by simp) ?_)
   have e2 := Heap.get?_update_self (Obj.mapFields (·.setIfInBounds 1 (rawInt ((i : Int) + 1)))) e1 (by rfl)
   refine wpAny_pure ⟨_, rfl, wpAny_pure (q1 x nt rfl _ (e2.trans ?_) fun b o hb e => ?_)⟩
   ·rfl
   ·exact ((Heap.SameBut.update _ I _).2 b hb).trans (((Heap.SameBut.update s.heap I _).2 b hb).trans e)
end
end L2
namespace L2
open PySem PySem.W PySem.Spec PyProof.Rows L3
section
variable {prog : Program} {w : World} {A : Around} {E : Q0} {s : Shared}
theorem Qio {S : Addr} {es : Array (Int × Value)} {ep i slot : Nat} {t : SetTable} {R : Option (Value × Nat) → Shared → Prop} (ht : w.params.followText "set-order" = true) (X : StrS prog w s.heap S es ep t) (h : R (((pickOrder (w.params.setOrder S ep) es)[i]?).map fun e => (e.2, slot)) s) : wpAny (model prog w) A (setNext S slot i ep) R E s := by
 obtain ⟨o, ho, hx, hd⟩ := X.ob
 unfold setNext
 refine wpAny_bind (wpAny_setState_of ho hd X.ft ?_)
 dsimp only
 unfold setsByText
 refine wpAny_bind (wpAny_bind (wpAny_askSetting (wpAny_pure ?_)))
 show wpAny _ _ (if w.params.followText "set-order" = true then _ else _) _ _ _
 rw [if_pos ht, if_neg (by simp)]
 unfold setWalk
 refine wpAny_bind (wpAny_bind (wpAny_setState_of ho hd X.ft ?_))
 dsimp only
 unfold setsByText
 refine wpAny_bind (wpAny_bind (wpAny_askSetting (wpAny_pure ?_)))
 show wpAny _ _ (if w.params.followText "set-order" = true then _ else _) _ _ _
 rw [if_pos ht]
 exact wpAny_bind (wpAny_askSetting (wpAny_pure (wpAny_pure h)))
theorem Qlm {S : Addr} {es : Array (Int × Value)} {ep i slot : Nat} {t : SetTable} {R : Option (Value × Nat) → Shared → Prop} (ht : w.params.followText "set-order" = false) (hs : es.size ≤ 1) (X : StrS prog w s.heap S es ep t)
 (h : R (match es[SetTable.below t.place slot]?, t.place[SetTable.below t.place slot]? with | some (_, x), some j => some (x, j + 1) | _, _ => none) s) : wpAny (model prog w) A (setNext S slot i ep) R E s := by
 obtain ⟨o, ho, hx, hd⟩ := X.ob
 have hl : t.led = true := by rw [X.ld, ht]; rfl
 unfold setNext
 refine wpAny_bind (wpAny_setState_of ho hd X.ft ?_)
 dsimp only
 unfold setsByText
 refine wpAny_bind (wpAny_bind (wpAny_askSetting (wpAny_pure ?_)))
 show wpAny _ _ (if w.params.followText "set-order" = true then _ else _) _ _ _
 rw [if_neg (by rw [ht]; decide)]
 show wpAny _ _ (if (!t.plain && decide (es.size > 1)) = true then _ else _) _ _ _
 rw [if_neg (by simp; omega)]
 show wpAny _ _ ((if (!t.led && !es.isEmpty) = true then unsupported "set:maker-not-led" else pure ()) >>= _) _ _ _
 rw [if_neg (by rw [hl]; simp)]
 exact wpAny_bind (wpAny_pure (wpAny_pure h))
theorem Qgm {I S T : Addr} {es : Array (Int × Value)} {ep i : Nat} {t : SetTable} {pl : List Nat} {Q : Option Value → Shared → Prop} (hh : A.handled = none) (X : StrS prog w s.heap S es ep t) (h : s.heap.get? I = some (siO (.ref T) (.ref S) i es.size ep)) (hT : s.heap.get? T = some (seqObj "tuple" (List.toArray (pl.map fun (j : Nat) => rawInt (j : Int))) 0)) (hp : ∀ j ∈ pl, j < es.size)
 (q1 : ∀ (j : Nat) (hj : j < es.size), pl[i]? = some j → ∀ h', h'.get? I = some (siO (.ref T) (.ref S) (i + 1) es.size ep) → (∀ b o, b ≠ I → s.heap.get? b = some o → h'.get? b = some o) → Q (some es[j].2) { s with heap := h' })
 (q2 : pl[i]? = none → ∀ h', (∀ b o, b ≠ I → s.heap.get? b = some o → h'.get? b = some o) → Q none { s with heap := h' }) : wpAny (model prog w) A (pyNext (.ref I)) Q E s := by
 obtain ⟨o, ho, hx, hd⟩ := X.ob
 unfold pyNext
 refine wpAny_bind (wpAny_attempt (wpAny_callSpecial?_slot (name := Str.ofString "__next__") (Qcw h) Qfw (wpAny_call_entry Qfw (Qcw h) en_si ?_ (ar_si _))))
 unfold Builtin.«set_iterator.__next__»; refine wpAny_bind (wpAny_pure (wpAny_bind (wpAny_fieldsOf h rfl ?_)))
 dsimp only; refine wpAny_bind (wpAny_setEntries_of ho hd X.ft ?_)
 rw [if_neg (by simp)]
 unfold seqItems?
 refine wpAny_bind (wpAny_bind (wpAny_load hT (wpAny_pure ?_)))
 simp only [Int.toNat_natCast, List.getElem?_toArray, List.getElem?_map]
 cases hj : pl[i]? with
 | none =>
   dsimp only [Option.map]
   refine wpAny_bind (wpAny_setField h rfl (by simp) ?_)
   have e1 := Qh4 (x := rawInt 0) h 0 (by decide)
   refine wpAny_bind (wpAny_setField e1 rfl (by simp) ?_)
   refine Qgi hh fun h' k => q2 hj h' fun b o hb e => k b o ?_
   exact ((Heap.SameBut.update _ I _).2 b hb).trans (((Heap.SameBut.update s.heap I _).2 b hb).trans e)
 | some j =>
   have hlt := hp j (List.mem_of_getElem? hj)
   dsimp only [Option.map, rawInt]
   simp only [Int.toNat_natCast]
   unfold setNextDrawn
   refine wpAny_bind (wpAny_bind (wpAny_setState_of ho hd X.ft ?_))
   dsimp only
   rw [if_neg (by simp)]
   rw [Array.getElem?_eq_getElem hlt]
   refine wpAny_bind (wpAny_pure (wpAny_pure ?_))
   refine wpAny_bind (wpAny_setField h rfl (by simp) ?_)
   have e1 := Qh4 (x := rawInt ((i : Int) + 1)) h 1 (by decide)
   exact wpAny_pure ⟨_, rfl, wpAny_pure (q1 j hlt hj _ e1 fun b o hb e => ((Heap.SameBut.update s.heap I _).2 b hb).trans e)⟩
end
end L2
namespace L2
open PySem PySem.W PySem.Spec PyProof.Rows L3
section
variable {prog : Program} {w : World} {A : Around} {E : Q0} {s : Shared}
theorem Qfq (j x : Nat) : SetTable.below #[j] x = if j < x then 1 else 0 := by
 unfold SetTable.below
 simp [SetTable.below.go]
theorem Qjx (a : Array Nat) (h : a.size = 1) : ∃ j, a = #[j] := by
 obtain ⟨l⟩ := a
 have h2 : l.length = 1 := h
 obtain ⟨j, rfl⟩ := List.length_eq_one_iff.mp h2
 exact ⟨j, rfl⟩
theorem Ql6 (hh : A.handled = none) (I S : Addr) (hne : S ≠ I) (es : Array (Int × Value)) (ep : Nat) (t : SetTable) (ht : w.params.followText "set-order" = true) :
 Walks prog w A I [I, S] [I] ((pickOrder (w.params.setOrder S ep) es).toList.map (·.2)).length (fun i v => ((pickOrder (w.params.setOrder S ep) es).toList.map (·.2))[i]? = some v) (fun i h => h.get? I = some (siO (.int (0 : Nat) 0) (.ref S) i es.size ep) ∧ StrS prog w h S es ep t) where
 sub := fun b hb => by rw [List.mem_singleton.mp hb]; exact List.mem_cons_self
 frame := fun _ _ _ st hk => ⟨hk I (by simp) _ st.1, st.2.same fun o e => hk S (by simp) o e⟩
 item := fun i s Q E hi st hQ => by
  refine Qek hh st.2 st.1 _ (fun R E1 hR => Qio ht st.2 hR) (fun x nt hr h' k1 k2 => ?_) (fun hr => ?_)
  ·obtain ⟨e, he, e2⟩ := Option.map_eq_some_iff.mp hr
   cases e2
   refine hQ _ h' s.toks ?_ ⟨k1, st.2.same fun o e => k2 S o hne e⟩ fun b o hb e => k2 b o (fun z => hb (by simp [z])) e
   rw [List.getElem?_map, Array.getElem?_toList, he]
   rfl
  ·rw [Option.map_eq_none_iff] at hr
   rw [List.length_map, Array.length_toList] at hi
   rw [Array.getElem?_eq_getElem hi] at hr
   cases hr
 done := fun s Q E st hQ => by
  refine Qek hh st.2 st.1 _ (fun R E1 hR => Qio ht st.2 hR) (fun x nt hr => ?_) (fun hr h' k2 => hQ h' s.toks fun b o hb e => k2 b o (fun z => hb (by simp [z])) e)
  rw [List.length_map, Array.length_toList, Array.getElem?_eq_none (Nat.le_refl _)] at hr
  cases hr
 self := fun _ _ _ _ st hQ => Qfx st.1 hQ
theorem wk_led (hh : A.handled = none) (I S : Addr) (hne : S ≠ I) (es : Array (Int × Value)) (ep : Nat) (t : SetTable) (ht : w.params.followText "set-order" = false) (hs : es.size ≤ 1) :
 Walks prog w A I [I, S] [I] (es.toList.map (·.2)).length (fun i v => (es.toList.map (·.2))[i]? = some v) (fun i h => (∃ slot : Nat, h.get? I = some (siO (.int slot 0) (.ref S) i es.size ep) ∧ SetTable.below t.place slot = i) ∧ StrS prog w h S es ep t) where
 sub := fun b hb => by rw [List.mem_singleton.mp hb]; exact List.mem_cons_self
 frame := fun _ _ _ st hk => ⟨by obtain ⟨sl, h1, h2⟩ := st.1; exact ⟨sl, hk I (by simp) _ h1, h2⟩, st.2.same fun o e => hk S (by simp) o e⟩
 item := fun i s Q E hi st hQ => by
  obtain ⟨⟨sl, h1, h2⟩, X⟩ := st
  rw [List.length_map, Array.length_toList] at hi
  have h0 : i = 0 := by omega
  have hn : es.size = 1 := by omega
  have hp : t.place.size = 1 := by
   have := X.ft
   unfold SetTable.fits at this
   rw [hn] at this
   simp at this
   exact this.1
  obtain ⟨j, hj⟩ := Qjx _ hp
  subst h0
  refine Qek hh X h1 _ (fun R E1 hR => Qlm ht hs X hR) (fun x nt hr h' k1 k2 => ?_) (fun hr => ?_)
  ·rw [h2, Array.getElem?_eq_getElem hi, hj] at hr
   simp at hr
   obtain ⟨e1, e2⟩ := hr
   refine hQ _ h' s.toks ?_ ⟨⟨nt, k1, ?_⟩, X.same fun o e => k2 S o hne e⟩ fun b o hb e => k2 b o (fun z => hb (by simp [z])) e
   ·rw [List.getElem?_map, Array.getElem?_toList, Array.getElem?_eq_getElem hi, ← e1]
    rfl
   ·rw [hj, Qfq, if_pos (by omega)]
  ·rw [h2, Array.getElem?_eq_getElem hi, hj] at hr
   simp at hr
 done := fun s Q E st hQ => by
  obtain ⟨⟨sl, h1, h2⟩, X⟩ := st
  refine Qek hh X h1 _ (fun R E1 hR => Qlm ht hs X hR) (fun x nt hr => ?_) (fun hr h' k2 => hQ h' s.toks fun b o hb e => k2 b o (fun z => hb (by simp [z])) e)
  rw [h2, List.length_map, Array.length_toList, Array.getElem?_eq_none (Nat.le_refl _)] at hr
  simp at hr
 self := fun _ _ _ _ st hQ => by
  obtain ⟨⟨sl, h1, _⟩, _⟩ := st
  exact Qfx h1 hQ
theorem Ql7 (hh : A.handled = none) (I S T : Addr) (hne : S ≠ I) (hnT : T ≠ I) (es : Array (Int × Value)) (ep : Nat) (t : SetTable) (pl : List Nat) (hp : ∀ j ∈ pl, j < es.size) :
 Walks prog w A I [I, S, T] [I] (pl.map fun j => (es.getD j (0, .none)).2).length (fun i v => (pl.map fun j => (es.getD j (0, .none)).2)[i]? = some v) (fun i h => h.get? I = some (siO (.ref T) (.ref S) i es.size ep) ∧ StrS prog w h S es ep t ∧ h.get? T = some (seqObj "tuple" (List.toArray (pl.map fun (j : Nat) => rawInt (j : Int))) 0)) where
 sub := fun b hb => by rw [List.mem_singleton.mp hb]; exact List.mem_cons_self
 frame := fun _ _ _ st hk => ⟨hk I (by simp) _ st.1, st.2.1.same fun o e => hk S (by simp) o e, hk T (by simp) _ st.2.2⟩
 item := fun i s Q E hi st hQ => by
  refine Qgm hh st.2.1 st.1 st.2.2 hp (fun j hj hr h' k1 k2 => ?_) (fun hr => ?_)
  ·refine hQ _ h' s.toks ?_ ⟨k1, st.2.1.same fun o e => k2 S o hne e, k2 T _ hnT st.2.2⟩ fun b o hb e => k2 b o (fun z => hb (by simp [z])) e
   rw [List.getElem?_map, hr]
   simp [Array.getD, hj]
  ·rw [List.length_map] at hi
   rw [List.getElem?_eq_getElem hi] at hr
   cases hr
 done := fun s Q E st hQ => by
  refine Qgm hh st.2.1 st.1 st.2.2 hp (fun j hj hr => ?_) (fun hr h' k2 => hQ h' s.toks fun b o hb e => k2 b o (fun z => hb (by simp [z])) e)
  rw [List.length_map, List.getElem?_eq_none (Nat.le_refl _)] at hr
  cases hr
 self := fun _ _ _ _ st hQ => Qfx st.1 hQ
theorem Qic {es : Array (Int × Value)} : ((List.range es.size).map fun j => (es.getD j (0, .none)).2) = es.toList.map (·.2) := by
 apply List.ext_getElem
 ·simp
 ·intro i h1 h2
  have h : i < es.size := by simpa using h1
  simp [Array.getD, h]
theorem Qj9 {S : Addr} {es : Array (Int × Value)} {ep : Nat} {t : SetTable} {Q : Q0} (hh : A.handled = none) (X : StrS prog w s.heap S es ep t)
 (hQ : ∀ h' I d (vs : List Value) fp St, vs.Perm (es.toList.map (·.2)) → (∀ b o, s.heap.get? b = some o → h'.get? b = some o) → s.heap.objs.size ≤ I → (∀ b ∈ fp, b = S ∨ s.heap.objs.size ≤ b) → Walks prog w A I fp [I] vs.length (fun i v => vs[i]? = some v) St → St 0 h' → Q (.ref I) { s with heap := h', drawn := d }) :
 wpAny (model prog w) A (pyIter (.ref S)) Q E s := by
 have hT := X.typeIs
 obtain ⟨o, ho, hx, hd⟩ := X.ob
 have lS : S < s.heap.objs.size := Heap.lt_size ho
 refine wpAny_pyIter_slot hT F.slot_set_iter (wpAny_call_entry F.slot_set_iter hT Qng ?_ (F.args_set_iter_1 _))
 unfold Builtin.«frozenset.__iter__» Builtin.Frozenset.slot0
 refine wpAny_bind (wpAny_bind (wpAny_pure (wpAny_pure ?_)))
 unfold Builtin.Frozenset.sizeOf
 refine wpAny_bind (wpAny_bind (wpAny_setEntries_of ho hd X.ft (wpAny_pure ?_)))
 unfold setDrawn setsByText
 refine wpAny_bind (wpAny_bind (wpAny_setState_of ho hd X.ft ?_))
 dsimp only
 refine wpAny_bind (wpAny_bind (wpAny_askSetting (wpAny_pure (wpAny_pure ?_))))
 show wpAny _ _ (if (!w.params.followText "set-order" && (!t.plain && decide (es.size > 1))) = true then _ else _) _ _ _
 have low : ∀ (I : Addr) (h' : Heap) (d : Drawn) (vs : List Value) (St : Nat → Heap → Prop), True := fun _ _ _ _ _ => trivial
 by_cases hdr : (!w.params.followText "set-order" && (!t.plain && decide (es.size > 1))) = true
 ·rw [if_pos hdr]
  refine wpAny_bind (Qdu _ _ _ _ (by simp) fun pl d hp => ?_)
  have hpl : ∀ j ∈ pl, j < es.size := fun j hj => List.mem_range.mp (hp.mem_iff.mp hj)
  have lpl : pl.length = es.size := by have := hp.length_eq; simpa using this
  refine wpAny_bind (wpAny_newTuple ?_ (by rw [List.length_map, lpl]; exact fits_of_scanBound X.sm))
  refine wpAny_bind (wpAny_setEpoch_of (Heap.get?_push_of_some _ ho) hd X.ft ?_)
  refine wpAny_bind (wpAny_newObj_type (wpAny_pure ⟨_, rfl, "set_iterator", _, ⟨_, Heap.get?_push_size _ rfl, rfl⟩, Qfw.lookup, ?_⟩))
  refine hQ _ _ d (pl.map fun j => (es.getD j (0, .none)).2) _ _ ?_ (fun b o e => Heap.get?_push_of_some _ (Heap.get?_push_of_some _ e)) ?_ ?_ (Ql7 hh _ S s.heap.objs.size ?_ ?_ es ep t pl hpl) ⟨?_, ?_, ?_⟩
  ·rw [← Qic]
   exact hp.map _
  ·show s.heap.objs.size ≤ (s.heap.push _).objs.size
   rw [Heap.size_push]
   exact Nat.le_succ _
  ·intro b hb
   simp only [List.mem_cons, List.not_mem_nil, or_false] at hb
   rcases hb with rfl | rfl | rfl
   ·right
    show s.heap.objs.size ≤ (s.heap.push _).objs.size
    rw [Heap.size_push]
    exact Nat.le_succ _
   ·exact .inl rfl
   ·exact .inr (Nat.le_refl _)
  ·show S ≠ (s.heap.push _).objs.size
   rw [Heap.size_push]
   exact Nat.ne_of_lt (Nat.lt_succ_of_lt lS)
  ·show s.heap.objs.size ≠ (s.heap.push _).objs.size
   rw [Heap.size_push]
   exact Nat.ne_of_lt (Nat.lt_succ_self _)
  ·exact Heap.get?_push_size _ rfl
  ·exact X.same fun o e => Heap.get?_push_of_some _ (Heap.get?_push_of_some _ e)
  ·exact Heap.get?_push_of_some _ (Heap.get?_push_size _ rfl)
 ·rw [if_neg hdr]
  refine wpAny_bind (wpAny_pure (wpAny_bind (wpAny_setEpoch_of ho hd X.ft ?_)))
  refine wpAny_bind (wpAny_newObj_type (wpAny_pure ⟨_, rfl, "set_iterator", _, ⟨_, Heap.get?_push_size _ rfl, rfl⟩, Qfw.lookup, ?_⟩))
  have fpS : ∀ b ∈ [s.heap.objs.size, S], b = S ∨ s.heap.objs.size ≤ b := fun b hb => by
   simp only [List.mem_cons, List.not_mem_nil, or_false] at hb
   rcases hb with rfl | rfl
   ·exact .inr (Nat.le_refl _)
   ·exact .inl rfl
  cases ht : w.params.followText "set-order" with
  | true =>
    refine hQ _ _ s.drawn ((pickOrder (w.params.setOrder S ep) es).toList.map (·.2)) _ _ ((Qif _ es).map _) (fun b o e => Heap.get?_push_of_some _ e) (Nat.le_refl _) fpS (Ql6 hh _ S (Nat.ne_of_lt lS) es ep t ht) ⟨Heap.get?_push_size _ rfl, X.same fun o e => Heap.get?_push_of_some _ e⟩
  | false =>
    have hs : es.size ≤ 1 := by
     rw [ht] at hdr
     rcases X.pl with h | h
     ·omega
     ·rw [h] at hdr
      simp at hdr
      omega
    refine hQ _ _ s.drawn (es.toList.map (·.2)) _ _ (.refl _) (fun b o e => Heap.get?_push_of_some _ e) (Nat.le_refl _) fpS (wk_led hh _ S (Nat.ne_of_lt lS) es ep t ht hs) ⟨⟨0, Heap.get?_push_size _ rfl, ?_⟩, X.same fun o e => Heap.get?_push_of_some _ e⟩
    have hp : t.place.size = es.size := by
     have := X.ft
     unfold SetTable.fits at this
     simp at this
     exact this.1
    by_cases h1 : t.place.size = 1
    ·obtain ⟨j, hj⟩ := Qjx _ h1
     rw [hj, Qfq, if_neg (Nat.not_lt_zero _)]
    ·have h2 : t.place = #[] := Array.eq_empty_of_size_eq_zero (by omega)
     rw [h2]
     rfl
end
end L2
namespace L2
open PySem PySem.W PySem.Spec PyProof.Rows L3
theorem Qgp : ∀ (p : Str) (l : List Str), (p :: l).Nodup → risingS p l = true → (p :: l).Pairwise (fun a b => ltS a b = true)
 | p, [], _, _ => List.pairwise_singleton _ _
 | p, x :: r, nd, h => by
   have h2 : (!ltCps x.cps.toList p.cps.toList && risingS x r) = true := h
   rw [Bool.and_eq_true] at h2
   have nd2 := List.nodup_cons.mp nd
   have ih := Qgp x r nd2.2 h2.2
   have px : ltS p x = true := by
    have hne : p ≠ x := fun e => nd2.1 (by rw [e]; exact .head _)
    rw [Qes hne]
    have := h2.1
    rw [ltCps_eq] at this
    exact this
   refine List.pairwise_cons.mpr ⟨fun y hy => ?_, ih⟩
   rcases List.mem_cons.mp hy with rfl | hy
   ·exact px
   ·exact Qgz px ((List.pairwise_cons.mp ih).1 y hy)
theorem Qe4 {l : List Str} (nd : l.Nodup) (h : sortedS l = true) : l.Pairwise (fun a b => ltS a b = true) := by
 cases l with
 | nil => exact .nil
 | cons p l => exact Qgp p l nd h
theorem Qko {xs ys : List Str} (p : xs.Perm ys) (h1 : xs.Pairwise (fun a b => ltS a b = true)) (h2 : ys.Pairwise (fun a b => ltS a b = true)) : xs = ys := by
 have g : ∀ {l : List Str}, l.Pairwise (fun a b => ltS a b = true) → (l.map fun x => (x, ("" : Str))).Pairwise (fun a b => ltP a b = true) := fun h => by
  rw [List.pairwise_map]
  refine h.imp fun {a b} e => ?_
  unfold ltP
  rw [if_neg (Qg0 e)]
  exact e
 have := Qg1 (p.map fun x => (x, ("" : Str))) (g h1) (g h2)
 have h := congrArg (List.map Prod.fst) this
 have e : (Prod.fst ∘ fun x : Str => (x, ("" : Str))) = id := rfl
 rw [List.map_map, List.map_map, e, List.map_id, List.map_id] at h
 exact h
section
variable {prog : Program} {w : World} {A : Around} {E : Q0} {s : Shared}
theorem Qkv {r : Addr} {Q : Bool → Shared → Prop} (hT : s.TypeIs (.ref r) "set") (h : Q false s) : wpAny (model prog w) A (Builtin.List.listLengthHint (.ref r)) Q E s := by
 unfold Builtin.List.listLengthHint; refine wpAny_bind (wpAny_specialOf hT PySem.F.slot_set_len.lookup ?_)
 generalize hid : ("set.__len__" : String) = id0
 wp_delta; rw [show splitId id0 = some ("set", "__len__") from by subst hid; decide+kernel]; subst hid
 refine wpAny_bind (wpAny_isInstance (T := "set") (b := true) hT (by rw [isSubtype_type]; kernel_rfl) ?_); refine wpAny_ite_split (fun hab => absurd hab (by decide)) (fun _ => ?_)
 refine wpAny_ite_split (fun _ => ?_) (fun hab => absurd (by decide+kernel) hab); exact wpAny_bind (wpAny_typeOf hT (wpAny_pure h))
theorem Qku {R : Result → Shared → Prop} {S L : Addr} {es : Array (Int × Value)} {ep : Nat} {t : SetTable} (hh : A.handled = none) (X : StrS prog w s.heap S es ep t) (hLS : L ≠ S) (hL : s.heap.get? L = some { cls := .type "list", data := .seq #[] 0 })
 (hR : ∀ h' tk d acc' c' (vs : List Value), vs.Perm (es.toList.map (·.2)) → (∀ b o, b ≠ L → s.heap.get? b = some o → h'.get? b = some o) → h'.get? L = some { cls := .type "list", dict := none, data := .seq acc' c', slots := #[] } → acc'.toList = vs → R (.ok (.ret (.ref L))) { s with heap := h', toks := tk, drawn := d }) :
 codeAny (model prog w) A (.builtin "list.__iadd__" ⟨[.ref L, .ref S], []⟩) R s := by
 refine codeAny_builtin entry_list_iadd' ?_
 show wpAny (model prog w) A.in1 (Builtin.List.listExtendWith (.ref L) (.ref S) (.ref L)) _ _ s
 unfold Builtin.List.listExtendWith; refine wpAny_bind (wpAny_typeOf (T := "set") X.typeIs ?_)
 have n1 : Builtin.List.listSameRef (.ref L) (.ref S) = false := by simp [Builtin.List.listSameRef, hLS]
 have n2 : (Value.type "set" == Value.type "list") = false := by decide
 have n3 : (Value.type "set" == Value.type "tuple") = false := by decide
 simp only [n1, n2, n3, Bool.or_false, Bool.false_eq_true, if_false]
 refine wpAny_bind (Qj9 (A := A.in1) hh X fun h1 I d vs fp St pm k1 lI fpb W st0 => ?_)
 have lL : L < s.heap.objs.size := Heap.lt_size hL
 have hLf : L ∉ fp := fun z => by
  rcases fpb L z with e | e
  ·exact hLS e
  ·exact absurd lL (Nat.not_lt.mpr e)
 have vl : vs.length ≤ sizeLine := by
  rw [pm.length_eq, List.length_map, Array.length_toList]
  exact fits_of_scanBound X.sm
 have L1 := k1 L _ hL
 have key : ∀ (h : Heap) (c1 : Nat), St 0 h → (∀ b o, b ≠ L → s.heap.get? b = some o → h.get? b = some o) → h.get? L = some { cls := .type "list", data := .seq #[] c1 } → codeAny (model prog w) A (.builtin "list.extend.loop" ⟨[.ref L, .ref I, .ref L], []⟩) R { s with heap := h, drawn := d } := fun h c1 hst hk hS1 => by
  refine codeAny_extend_loopS W.toS vl L hLf (.ref L) vs.length 0 _ #[] c1 rfl (Nat.zero_le _) hst hS1 (ItemsOf.nil _) fun s' acc' c' hm hS' hacc => ?_
  rw [Moved.eq_with hm]
  refine hR s'.heap s'.toks d acc' c' vs pm (fun b o hb e => hm.heap b o (fun z => ?_) (hk b o hb e)) hS' ?_
  ·rcases List.mem_cons.mp z with e' | z
   ·exact hb e'
   ·rw [List.mem_singleton.mp z] at e
    exact absurd (Heap.lt_size e) (Nat.not_lt.mpr lI)
  ·apply List.ext_getElem?
   intro i
   by_cases hi : i < acc'.toList.length
   ·have hi2 : i < acc'.size := by simpa using hi
    have := hacc.2 i acc'[i] (Array.getElem?_eq_getElem hi2)
    rw [List.getElem?_eq_getElem hi, this]
    simp
   ·have hz := hacc.1
    rw [List.getElem?_eq_none (by omega), List.getElem?_eq_none (by simp at hi; omega)]
 refine wpAny_bind (wpAny_holding (Qkv (s := { s with heap := h1, drawn := d }) (X.same (h' := h1) fun o e => k1 _ o e).typeIs ?_))
 refine wpAny_ite_split (fun _ => ?_) (fun _ => wpAny_pure ⟨plainId_quiet PySem.F.plain_extend_loop _, key _ 0 st0 (fun b o _ e => k1 b o e) L1⟩)
 refine wpAny_bind (wpAny_rule (wpAny_bind ?_)); show wpAny _ _ (updateSeq L (·.push .none) >>= fun _ => updateSeq L (·.pop)) _ _ _
 refine wpAny_bind (wpAny_updateSeq L1 rfl ?_)
 have L2_ := Heap.get?_update_self (Obj.mapSeq (·.push Value.none)) L1 rfl
 refine wpAny_updateSeq (hz := by seq_fits) L2_ rfl ?_
 have L3_ := Heap.get?_update_self (Obj.mapSeq (·.pop)) L2_ rfl
 refine wpAny_pure ⟨plainId_quiet PySem.F.plain_extend_loop _, key _ _ ?_ (fun b o hb e => ?_) L3_⟩
 ·refine W.frame 0 _ _ st0 fun b hb o e => ?_
  have hbL : b ≠ L := fun z => hLf (z ▸ hb)
  exact (Heap.get?_update_other _ _ (Ne.symm hbL)).trans ((Heap.get?_update_other _ _ (Ne.symm hbL)).trans e)
 ·exact (Heap.get?_update_other _ _ (Ne.symm hb)).trans ((Heap.get?_update_other _ _ (Ne.symm hb)).trans (k1 b o e))
theorem Qga {S : Addr} {es : Array (Int × Value)} {ep : Nat} {t : SetTable} {Q : List Value → Shared → Prop} (hh : A.handled = none) (X : StrS prog w s.heap S es ep t)
 (h : ∀ h' tk d vs, vs.Perm (es.toList.map (·.2)) → (∀ b o, s.heap.get? b = some o → h'.get? b = some o) → s.heap.objs.size < h'.objs.size → Q vs { s with heap := h', toks := tk, drawn := d }) : wpAny (model prog w) A (collect (.ref S)) Q E s := by
 unfold collect; refine wpAny_bind (wpAny_runValue (codeAny_builtin entry_proto_collect' ?_))
 have hL : (s.heap.push (seqObj "list" #[] 0)).get? s.heap.objs.size = some (seqObj "list" #[] 0) := Heap.get?_push_size _ rfl
 have X1 : StrS prog w (s.heap.push (seqObj "list" #[] 0)) S es ep t := X.same fun o e => Heap.get?_push_of_some _ e
 have hne : s.heap.objs.size ≠ S := by
  obtain ⟨o, ho, _⟩ := X.ob
  exact Ne.symm (Nat.ne_of_lt (Heap.lt_size ho))
 refine wpAny_bind (wpAny_newList (wpAny_pure ⟨Code.quiet_builtin _ (by decide+kernel), Qku (s := { s with heap := s.heap.push (seqObj "list" #[] 0) }) hh X1 hne hL fun h' tk d acc c vs pm k hL' e => ?_⟩))
 refine (wpAny_bind (wpAny_load (s := { s with heap := h', toks := tk, drawn := d }) hL' ?_) : wpAny (model prog w) A (load s.heap.objs.size >>= fun o => match o.data with | .seq xs _ => pure xs.toList | _ => unsupported "internal:collect") Q E { s with heap := h', toks := tk, drawn := d })
 show wpAny (model prog w) A (pure acc.toList) Q E _
 rw [e]
 exact wpAny_pure (h h' tk d vs pm (fun b o hb => k b o (Nat.ne_of_lt (Heap.lt_size hb)) (Heap.get?_push_of_some _ hb)) (Heap.lt_size hL'))
end
end L2
namespace L2
open PySem PySem.W PySem.Spec PyProof.Rows L3
theorem sa_of : ∀ {zs : List Str} {its : List Value}, Vals (zs.map V.str) its → StrsAre its zs
 | [], _, .nil => .nil
 | z :: zs, _, .cons (b := v) r t => by
   obtain ⟨tk, rfl⟩ := r
   exact .cons z tk (sa_of t)
theorem Qmr : ∀ {zs : List Str} {its : List Value}, StrsAre its zs → Vals (zs.map V.str) its
 | _, _, .nil => .nil
 | _, _, .cons y t h => .cons ⟨t, rfl⟩ (Qmr h)
theorem Qle {prog : Program} {w : World} : ∀ {l : List (Int × Value)}, ElemsOf (PySem.strKind prog w) l → StrsAre (l.map (·.2)) (l.map fun e => L2.strOf e.2)
 | [], _ => .nil
 | e :: r, h => by
   obtain ⟨⟨k, hk, _⟩, _⟩ := h.head
   obtain ⟨t, ht⟩ := Value.isStrOf_shape hk
   rw [List.map_cons, List.map_cons, ht]
   exact .cons k t (Qle h.tail)
theorem Qmh {vs us : List Value} (p : vs.Perm us) : ∀ {ks : List Str}, StrsAre us ks → ∃ zs : List Str, StrsAre vs zs ∧ zs.Perm ks := by
 induction p with
 | nil => intro ks h; cases h; exact ⟨[], .nil, .nil⟩
 | cons x _ ih =>
   intro ks h
   cases h with
   | cons y t h =>
     obtain ⟨zs, h1, h2⟩ := ih h
     exact ⟨y :: zs, .cons y t h1, h2.cons y⟩
 | swap x y l =>
   intro ks h
   cases h with
   | cons a t h =>
     cases h with
     | cons b u h => exact ⟨b :: a :: _, .cons b u (.cons a t h), .swap _ _ _⟩
 | trans _ _ ih1 ih2 =>
   intro ks h
   obtain ⟨zs, h1, h2⟩ := ih2 h
   obtain ⟨ys, h3, h4⟩ := ih1 h1
   exact ⟨ys, h3, h4.trans h2⟩
section
variable {prog : Program} {w : World} {A : Around} {E : Q0} {s : Shared}
theorem Qhe {S : Addr} {es : Array (Int × Value)} {ep : Nat} {t : SetTable} {Q : Q0} (hh : A.handled = none) (X : StrS prog w s.heap S es ep t) (nd : (ksOf es).Nodup) (h64 : es.size < 64)
 (fin : ∀ h' tk d D c (out : List Value) (zs : List Str), StrsAre out zs → zs.Perm (ksOf es) → zs.Pairwise (fun a b => ltS a b = true) → (∀ b o, s.heap.get? b = some o → h'.get? b = some o) → s.heap.objs.size ≤ D → h'.get? D = some (seqObj "list" out.toArray c) → Q (.ref D) { s with heap := h', toks := tk, drawn := d }) :
 wpAny (model prog w) A (call (.builtin "sorted") [Value.ref S]) Q E s := by
 refine Calls.call_function_entry kind_sorted plain_sorted entry_sorted (args_sorted1 _) (?_ : wpAny _ _ (Builtin.«sorted» _) _ _ s)
 unfold Builtin.«sorted»; refine wpAny_bind (m := checkCount "sorted" 1 1 _) (wpAny_pure (wpAny_bind (Qga hh X fun h1 tk d vs pm k1 l1 => ?_)))
 obtain ⟨us, sa, pu⟩ := Qmh pm (Qle X.el)
 have lv : vs.length = es.size := by rw [pm.length_eq, List.length_map, Array.length_toList]
 refine wpAny_bind (wpAny_newList ?_ (by rw [sizeLine_eq]; omega))
 have hD : (h1.push (seqObj "list" vs.toArray 0)).get? h1.objs.size = some (seqObj "list" vs.toArray 0) := Heap.get?_push_size _ rfl
 refine wpAny_bind (wpAny_holding (wpAny_call_entry slot_list_sort ⟨_, hD, rfl⟩ entry_list_sort (list_sort_treeK (s := { s with heap := h1.push (seqObj "list" vs.toArray 0), toks := tk, drawn := d }) strKind_oneLt hD sa.keysOf (fun v1 v2 rest e => keyKind_strs (by rw [← e]; exact sa)) (by omega) fun st' a1 a2 => ⟨_, rfl, ?_⟩) (args_list_sort _)))
 obtain ⟨zs, b1, b2, b3⟩ := sorted_out_str sa a1 a2
 have pz := b2.trans pu
 obtain ⟨c, hc⟩ := sortedHeap_at (vs := vs) (out := (arrOf st').map (·.2)) hD
 refine wpAny_pure ⟨_, rfl, fin _ tk d h1.objs.size c ((arrOf st').map (·.2)).toList zs b1 pz (Qe4 (pz.nodup_iff.mpr nd) b3) (fun b o e => ?_) (Nat.le_of_lt l1) ?_⟩
 ·have hb := k1 b o e
  rw [sortedHeap_old (Nat.ne_of_lt (Heap.lt_size hb)) (by rw [Heap.size_push]; exact Nat.lt_succ_of_lt (Heap.lt_size hb))]
  exact Heap.get?_push_of_some _ hb
 ·rw [Array.toArray_toList]
  exact hc
end
section
variable {X : Cx}
theorem Qdk : CallR X (.builtin "sorted") (fun xs H Q => ∃ (p : Addr) (ss : List Str), xs = [.ref p] ∧ SqL X.K H p (ss.map V.str) ∧ ss.length < 64 ∧ ss.Nodup ∧ ∀ l (zs : List Str), H l = none → zs.Perm ss → zs.Pairwise (fun a b => ltS a b = true) → Q (.ref l) (upd H l (.lst (zs.map V.str)))) := by
 intro pins s σ H xs us Q I r h
 obtain ⟨p, ss, rfl, hq, h64, nd, q⟩ := h
 obtain ⟨u, rfl, rx⟩ := vals1 r
 cases rx
 obtain ⟨its, r', pl, hz⟩ := I.list hq
 have hlen := r'.length
 rw [List.length_map] at hlen
 refine sorted_strs pl.isList (sa_of r') (by omega) fun out zs a1 a2 a3 => ?_
 obtain ⟨e, he⟩ := sortedAll_at s.heap its out
 have l1 := a2.length_eq
 refine ⟨.ref (s.heap.objs.size + 1), _, I.laid (t' := s.toks) (fun _ _ => sortedAll_old) (Nat.le_succ _) (show ObjOk X.prog X.w _ _ _ (.lst (zs.map V.str)) from ⟨?_, out.toList, e, Qmr a1, ?_⟩), rfl, q _ zs (I.hok.fresh (Nat.le_succ _)) a2 (Qe4 (a2.nodup_iff.mpr nd) a3)⟩
 ·rw [List.length_map]
  have : 64 ≤ sizeLine := by decide
  omega
 ·exact he
def tSortSet (K : Q4) (t : TA) : TE := fun σ H Q => t σ H fun xs H1 => ∃ (p : Addr) (ss : List Str), xs = [.ref p] ∧ SqL K H1 p (ss.map V.str) ∧ ss.length < 64 ∧ ∀ l (zs : List Str), H1 l = none → zs.Nodup → (∀ x, x ∈ zs ↔ x ∈ ss) → zs.Pairwise (fun a b => ltS a b = true) → Q (.ref l) (upd H1 l (.lst (zs.map V.str)))
theorem Inv.drawn {pins : Q3} {σ : St} {H : Hp} {s : Shared} (I : Inv X pins σ H s) (d : Drawn) : Inv X pins σ H { s with drawn := d } := ⟨I.ok, I.os, I.bare, I.base, I.loc, I.cell, I.free, I.freeC, I.pin, I.hok, I.len⟩
theorem Qed {e : Expr} {p1 p2 q1 q2 : Pos} {t : TA} (hc : X.calm = true) (hg1 : Gl X "sorted") (hm1 : X.mg "sorted" = none) (hg2 : Gl X "set") (hm2 : X.mg "set" = none) (ha : PA X [e] t)
 (he1 : starEach [.Call (.Name "set" p2) [e] [] q2] X.env = (false, eval (.Call (.Name "set" p2) [e] [] q2) X.env) :: starEach [] X.env := by rfl) (he2 : starEach [e] X.env = (false, eval e X.env) :: starEach [] X.env := by rfl) : PE X (.Call (.Name "sorted" p1) [.Call (.Name "set" p2) [e] [] q2] [] q1) (tSortSet X.K t) := by
 intro pins s σ H Q I h
 refine wpAny_Call_Name_kw (Qdi I hg1 hm1 (u := .builtin "sorted") (by decide+kernel) ?_)
 refine PyProof.Rows.callWith_builtin1 (rest := []) ?_ he1 (by rfl)
 rw [he1]
 show wpAny _ _ (spliced ((false, eval (.Call (.Name "set" p2) [e] [] q2) X.env) :: backTo q1 (starEach [] X.env))) _ _ s
 refine Calls.spliced_cons ?_
 refine wpAny_Call_Name_kw (Qdi I hg2 hm2 (u := .type "set") (by decide+kernel) ?_)
 refine PyProof.Rows.callWith_type1 (thn (ha q2 pins s σ H _ I h) fun us s1 ⟨vs, H1, I1, r1, qq⟩ => ?_) he2 (by rfl)
 obtain ⟨p, ss, rfl, hq, h64, q⟩ := qq
 obtain ⟨u, rfl, rx⟩ := vals1 r1
 cases rx
 obtain ⟨its, r', pl, hz⟩ := I1.list hq
 have hlen := r'.length
 rw [List.length_map] at hlen
 have hlA : its.toArray.size = ss.length := by rw [List.size_toArray]; exact hlen.symm
 refine Qka (A := X.A) (ss := fun i => ss.getD i "") (I1.ok.hd hc) pl.isList (fun i v hv => ?_) (by rw [hlA]; unfold scanBound; omega) fun h' tk es ep t SS sz nd mm kk => ?_
 ·have hv2 : its[i]? = some v := by simpa using hv
  have hi := (List.getElem?_eq_some_iff.mp hv2).1
  obtain ⟨x, e1, rx⟩ := Qbj r' i hi
  rw [List.getElem?_map] at e1
  obtain ⟨z, hz1, rfl⟩ := Option.map_eq_some_iff.mp e1
  obtain ⟨tk, ht⟩ := rx
  refine ⟨tk, ?_⟩
  rw [List.getElem?_eq_getElem hi] at hv2
  rw [← Option.some.inj hv2, ht]
  simp [List.getD, hz1]
 ·refine Calls.spliced_nil ?_
  have sz2 : es.size < 64 := by omega
  refine Qhe (s := { s1 with heap := h', toks := tk }) (I1.ok.hd hc) SS nd sz2 fun h2 tk2 d D c out zs sa pz pw k2 lD gD => ?_
  have kk2 : ∀ b o, s1.heap.get? b = some o → h2.get? b = some o := fun b o e => k2 b o (kk b o (Heap.lt_size e) e)
  have lD2 : s1.heap.objs.size ≤ D := by
   obtain ⟨o, ho, _⟩ := SS.ob
   exact Nat.le_trans (Nat.le_of_lt (Heap.lt_size ho)) lD
  have lz : zs.length = es.size := by
   rw [pz.length_eq]
   unfold ksOf
   rw [List.length_map, Array.length_toList]
  have zl : (zs.map V.str).length ≤ sizeLine := by
   rw [List.length_map]
   have : 64 ≤ sizeLine := by decide
   omega
  have I2 := (I1.drawn d).laid (h' := h2) (t' := tk2) kk2 lD2 (show ObjOk X.prog X.w _ _ _ (.lst (zs.map V.str)) from ⟨zl, out, c, Qmr sa, gD⟩)
  refine ⟨.ref D, _, I2, rfl, q D zs (I1.hok.fresh lD2) (pz.nodup_iff.mpr nd) (fun x => ?_) pw⟩
  rw [pz.mem_iff, mm x, hlA]
  constructor
  ·rintro ⟨j, hj, e⟩
   rw [← e]
   simp [List.getD, hj]
  ·intro hx
   obtain ⟨j, hj, e⟩ := List.getElem_of_mem hx
   exact ⟨j, hj, by simp [List.getD, hj, e]⟩
end
end L2
namespace L2
open PySem PySem.W PySem.Spec PyProof.Rows L3
section
variable {X : Cx}
theorem Qis : MtM X "dict.update" (fun x vs H Q => ∃ d o kvs more, x = .ref d ∧ vs = [.ref o] ∧ d ≠ o ∧ H d = some (.dK kvs) ∧ H o = some (.dK more) ∧ kvs.length + more.length ≤ 10 ^ 6 ∧ Q .non (upd H d (.dK (putAll kvs more)))) := by
 intro pins s σ H x vs v us Q I rx rv h
 obtain ⟨d, o, kvs, more, rfl, rfl, hne, hd, ho, hl, q⟩ := h
 cases rx
 obtain ⟨u, rfl, ru⟩ := rv.one
 cases ru
 obtain ⟨z, hs, vs1, rel, dd⟩ := dk_of I.hok hd
 obtain ⟨z2, hs2, vs2, rel2, dd2⟩ := dk_of I.hok ho
 have hline : 10 ^ 6 ≤ sizeLine := by decide
 have l1 := rel.length
 have l2 := rel2.length
 have l3 := Qde more kvs
 refine call_meetsIn PySem.F.slot_dict_update dd.typeIs PySem.F.entry_dict_update (PySem.F.args_dict_update_2 _ _) (meets_dict_update (mixKind X.prog X.w) d o hne hs2) ⟨vs1, vs2, dd, dd2, by omega, fun h' d1 d2 sb => ?_⟩
 have he : ∃ q, h'.get? d = some q := let ⟨q, _, _, hq, _⟩ := d1; ⟨q, hq⟩
 exact ⟨.non, _, Qnk (t' := s.toks) I (by rw [hd]; exact True.intro) sb he (Ql2 (by omega) hs (rel2.putAll rel) d1), rfl, q⟩
theorem Qdn {cm : Bool} {k : Nat} (hr : Room cm k X.A) : OpR X (compareOp .NotEq) (fun x y H Q => ∃ a b xs ys, x = .ref a ∧ y = .ref b ∧ SqL X.K H a xs ∧ SqL X.K H b ys ∧ ((xs.length ≠ ys.length ∧ Q (.bl true) H) ∨ (EqLs X.K H xs ys ∧ Q (.bl false) H))) := by
 intro pins s σ H x y v u Q I rx ry h
 obtain ⟨a, b, xs, ys, rfl, rfl, ha, hb, h⟩ := h
 rcases h with ⟨hne, q⟩ | ⟨he, q⟩
 ·cases rx
  cases ry
  obtain ⟨its, r, pl, hz⟩ := I.list ha
  obtain ⟨its2, r2, pl2, hz2⟩ := I.list hb
  have l1 := r.length
  have l2 := r2.length
  have hu : X.A.units < cLine := by have := hr.un; omega
  refine SeqAt.RcNeAt.lists_lengths pl.isList pl2.isList ?_ hu _ _ _ _ ⟨.bl true, H, I, rfl, q⟩
  simp only [List.size_toArray]
  rw [← l1, ← l2]
  simpa using hne
 ·exact Qij hr pins s σ H _ _ v u Q I rx ry ⟨a, b, xs, ys, rfl, rfl, ha, hb, he, q⟩
end
end L2
namespace L2
open PySem PySem.Spec PyProof.Rows L3
section
variable {X : Cx} {pins : Q3} {σ : St} {H : Hp} {s : Shared}
end
section
variable {X : Cx}
end
end L2
namespace L2
open PySem PySem.W PySem.Spec PyProof.Rows L3
abbrev TH := Value → Option Addr → Hp → Ends → St → Prop
def thNil : TH := fun _ _ _ _ _ => False
def thAs (K : Q4) (CB : Addr) (i : Nat) (ts : TS) (th : TH) : TH := fun C dx H' D σ =>
 (exmOne K C (.ref CB) = some true ∧ ∀ x, H' x = none →
  ts { nx := fun σ2 H2 => D.nx (σ2.set i none) H2, rt := D.rt, bk := fun σ2 H2 => D.bk (σ2.set i none) H2, ct := fun σ2 H2 => D.ct (σ2.set i none) H2 } (σ.set i (some (.ref x))) (upd H' x (excO x C dx))) ∨
 (exmOne K C (.ref CB) = some false ∧ th C dx H' D σ)
def PH (X : Cx) (hs : List ExceptHandler) (th : TH) : Prop := ∀ (pins : Q3) (σ : St) (H' : Hp) (D : Ends) (T x : Addr) (C : Value) (dx : Option Addr) (s3 : Shared), X.Ok → Inv X pins σ H' s3 → FpOk X pins H' T → FpOk X pins H' x → T ≠ x → Rec s3.heap x C dx (.ref T) → Tra s3.heap T .none → th C dx H' D σ →
 wpAny (model X.prog X.w) X.A (handleBy (.ref x) X.env hs) (SP X pins D) X.xe s3
def tTryH (tb : (St → Prop) → XK → TS) (th : TH) : TS := fun D σ H => tb (fun σ' => σ' = σ) (fun C dx H' => th C dx H' D σ) D σ H
section
variable {X : Cx}
theorem ph_nil : PH X [] thNil := fun _ _ _ _ _ _ _ _ _ _ _ _ _ _ _ _ h => h.elim
theorem Qkf {y n : Str} {np hpos : Pos} {b0 : Stmt} {suite : List Stmt} {hs : List ExceptHandler} {CB : Addr} {i : Nat} {ts : TS} {th : TH} (hN : X.N.Nodup) (hi : X.N[i]? = some n) (hl : X.env.scope.names.lookup n = some .local)
 (hg : Gl X y) (hm : X.mg y = some (.ref CB)) (hs1 : ∀ x, PSs (sup X x) (b0 :: suite) ts) (hr : PH X hs th) (hdb : (y == ("__debug__" : Str)) = false := by decide) : PH X (.ExceptHandler (some (.Name y np)) (some n) (b0 :: suite) hpos :: hs) (thAs X.K CB i ts th) := by
 intro pins σ' H' D T x C dx s3 ok I3 fT own ne r3 t3 h
 have LT : PySem.W.Looks (model X.prog X.w) s3.heap (typeOf (.ref x)) C := by
  obtain ⟨oe, vs, he, hc, _⟩ := id r3
  exact hc ▸ (PySem.W.Looks.ld he).andThen .now
 rcases h with ⟨hmt, hsu⟩ | ⟨hmt, hth⟩
 ·refine wpAny_handleBy_cons (codeAny_handlers_test (Qc2 (X := sup X x) (Qd1 I3 x) hg hm ((PySem.W.exm_one I3.kIn LT hmt).here ?_) hdb)) (by intro z; cases z)
  show codeAny _ _ (.handlers (.ref x) [.ExceptHandler none (some n) (b0 :: suite) hpos] X.env) _ s3
  refine codeAny_handlers_suite_as (Qbl r3 ne t3 fun h4 a4 r4 t4 => ?_)
  have I4 : Inv X pins σ' H' { s3 with heap := h4 } := aft I3 (a4.mono (by simp) fun _ z => z) (by intro b hb; have : b = T := by simpa using hb
                                                                                                   subst this; exact fT)
  have I5 := track (o := excO x C dx) I4 own (Qji r4)
  refine Qdm (X := sup X x) (Qd1 I5 x) hN hi (.inl hl) (v := .ref x) rfl (fun s6 I6 => ?_) (.inr hl)
  refine wpAny_mono (hs1 x pins s6 _ _ _ I6 (hsu x own.1)) (fun f s7 q => ?_) fun _ _ z => z.elim
  cases f with
  | next => obtain ⟨σ7, H7, I7, q7⟩ := q; exact Qb3 (Qb6 ok I7) hN hi hl fun s8 I8 => ⟨_, _, I8, q7⟩
  | brk => obtain ⟨σ7, H7, I7, q7⟩ := q; exact Qb3 (Qb6 ok I7) hN hi hl fun s8 I8 => ⟨_, _, I8, q7⟩
  | cont => obtain ⟨σ7, H7, I7, q7⟩ := q; exact Qb3 (Qb6 ok I7) hN hi hl fun s8 I8 => ⟨_, _, I8, q7⟩
  | ret u => obtain ⟨v7, σ7, H7, I7, r7, q7⟩ := q; exact Qb3 (Qb6 ok I7) hN hi hl fun s8 I8 => ⟨v7, _, _, I8, r7, q7⟩
 ·refine wpAny_handleBy_cons (codeAny_handlers_test (Qc2 (X := sup X x) (Qd1 I3 x) hg hm ((PySem.W.exm_one I3.kIn LT hmt).here ?_) hdb)) (by intro z; cases z)
  exact hr pins σ' H' D T x C dx s3 ok I3 fT own ne r3 t3 hth
theorem Qml {body : List Stmt} {h0 : ExceptHandler} {hs : List ExceptHandler} {pos : Pos} {tb : (St → Prop) → XK → TS} {th : TH}
 (hst : X.stack = X.env :: X.outer) (hfr : X.env.frame = some X.env.locals)
 (hb : ∀ (pn : Q3) (E : Q0) (R : St → Prop) (Ek : XK), PassesOwn (model X.prog X.w) X.A X.env E → XeIs (into X pn E) R Ek → PSs (into X pn E) body (tb R Ek)) (hh : PH X (h0 :: hs) th) : PS X (.Try body (h0 :: hs) [] [] pos) (tTryH tb th) := by
 intro pins s σ H D I h
 refine wpAny_Try_except ?_
 have hxe : XeIs (into X (X.pn ++ pins) (fun e s1 => wpAny (model X.prog X.w) X.A (noteFrame e X.env) (fun _ s2 => wpAny (model X.prog X.w) X.A (setFlight e none)
  (fun _ s3 => wpAny (model X.prog X.w) X.A (handleBy e X.env (h0 :: hs)) (SP X pins D) X.xe s3) X.xe s2) X.xe s1)) (fun σ' => σ' = σ)
  (fun C dx H' => th C dx H' D σ) := by
  rintro pins' σ' H' s' x C dx I' rfl ex hsu
  have I1 : Inv X pins σ' H' s' := Qcg I'
  have own : FpOk X pins H' x := Qcr ex.own
  have fin : ∀ (T : Addr) (s3 : Shared), Inv X pins σ' H' s3 → FpOk X pins H' T → T ≠ x → Rec s3.heap x C dx (.ref T) → Tra s3.heap T .none →
   wpAny (model X.prog X.w) X.A (handleBy (.ref x) X.env (h0 :: hs)) (SP X pins D) X.xe s3 :=
   fun T s3 I3 fT ne r3 t3 => hh pins σ' H' D T x C dx s3 I.ok I3 fT own ne r3 t3 hsu
  have fr : X.A.frames = some (X.env :: X.outer) := by rw [I1.ok.frames, hst]
  have stk : s'.heap.FunFrames X.base (X.env :: X.outer) := by rw [← hst]; exact I1.stack
  have big : ∀ {T : Addr}, s'.heap.objs.size ≤ T → (∃ tb, Rec s'.heap x C dx tb) → T ≠ x := fun sz ⟨_, oe, _, he, _⟩ z => absurd (Nat.lt_of_lt_of_le (Heap.lt_size he) (z ▸ sz)) (Nat.lt_irrefl _)
  rcases ex.tr with r | ⟨T0, fl0, r, ne0, t0, f0⟩
  ·refine Qep fr stk hfr r fun h' T a sz r' t' => ?_
   have J1 := aft I1 (by rw [hst]; exact a) (by intro b hb; have : b = x := by simpa using hb
                                                subst this; exact own)
   have ne := big sz ⟨_, r⟩
   have fT := I1.fpOk (H' := H') sz (I1.hok.fresh sz)
   refine Qbl r' ne t' fun h2 a2 r2 t2 => ?_
   exact fin T _ (aft (h' := h2) J1 (a2.mono (by simp) fun _ z => z) (by intro b hb; have : b = T := by simpa using hb
                                                                         subst this; exact fT)) fT ne r2 t2
  ·refine Qeq fr stk hfr r ne0 t0 fun h' T fl' a sz r' t' => ?_
   have J1 := aft I1 (by rw [hst]; exact a) (by intro b hb
                                                rcases (show b = x ∨ b = T0 by simpa using hb) with z | z
                                                ·subst z; exact own
                                                ·subst z; exact Qcr f0)
   have ne : T ≠ x := by
    rcases sz with z0 | z0
    ·rw [z0]; exact ne0
    ·exact big z0 ⟨_, r⟩
   have fT : FpOk X pins H' T := by
    rcases sz with z0 | z0
    ·rw [z0]; exact Qcr f0
    ·exact I1.fpOk (H' := H') z0 (I1.hok.fresh z0)
   refine Qbl r' ne t' fun h2 a2 r2 t2 => ?_
   exact fin T _ (aft (h' := h2) J1 (a2.mono (by simp) fun _ z => z) (by intro b hb; have : b = T := by simpa using hb
                                                                         subst this; exact fT)) fT ne r2 t2
 refine wpAny_mono (hb (X.pn ++ pins) _ _ _ PassesOwn.looking hxe [] s σ H D (Qg3 I _) h) (fun f s1 q => ?_) fun _ _ z => z
 have q' := Qgk q
 cases f with
 | next => exact wpAny_execs_nil q'
 | brk => exact q'
 | cont => exact q'
 | ret u => exact q'
end
end L2
namespace L2
open PySem PySem.Spec PyProof.Rows L3
section
variable {X : Cx}
end
end L2
namespace L2
open PySem PySem.W PySem.Spec PyProof.Rows L3
section
variable {X : Cx}
end
end L2
namespace L2
open PySem PySem.W PySem.Spec PyProof.Rows L3
section
variable {prog : Program} {w : World} {s : Shared} {A : Around} {E : Q0}
def TwoI (h : Heap) (a : Addr) (k : Int × Int) : Prop := ∃ o n t u, h.get? a = some o ∧ o.cls = .type "tuple" ∧ o.data = .seq #[.int k.1 t, .int k.2 u] n
inductive TwosI (h : Heap) : List Addr → List (Int × Int) → Prop where
 | nil : TwosI h [] []
 | cons {a : Addr} {k : Int × Int} {as : List Addr} {ks : List (Int × Int)} (x : TwoI h a k) (r : TwosI h as ks) : TwosI h (a :: as) (k :: ks)
theorem TwosI.len {h : Heap} : ∀ {as : List Addr} {ks : List (Int × Int)}, TwosI h as ks → as.length = ks.length
 | _, _, .nil => rfl
 | _, _, .cons _ r => congrArg (· + 1) r.len
theorem TwosI.at {h : Heap} : ∀ {as : List Addr} {ks : List (Int × Int)} (i : Nat), TwosI h as ks → i < as.length → ∃ a, (as.map Value.ref).getD i Value.none = .ref a ∧ TwoI h a (ks.getD i (0, 0))
 | _, _, i, .nil, hi => absurd hi (Nat.not_lt_zero _)
 | _, _, 0, .cons x _, _ => ⟨_, rfl, x⟩
 | _, _, i + 1, .cons _ r, hi => by
   obtain ⟨a, e, x⟩ := r.at i (by simpa using hi)
   exact ⟨a, by simpa [List.getD] using e, by simpa [List.getD] using x⟩
end
section
variable {prog : Program} {w : World} {s : Shared} {A : Around} {E : Q0}
end
section
variable {X : Cx}
end
end L2
namespace L2
open PySem PySem.Spec PyProof.Rows L3
section
variable {X : Cx}
end
theorem LcOkT.free {X : Cx} {xs : List Str} {scope : Scope} {cl : List (Str × Addr)} {js : List Nat} (fns : List Str) (hclos : closureFor scope X.env = pure cl) (hf : cl.map (·.1) = fns) (hsub : ∀ p ∈ cl, X.env.cells.lookup p.1 = some p.2) (hcell : ∀ y ∈ scope.names, y.2 ≠ .cell) (hkind : scope.kind = .function) (hnames : ∀ y ∈ scope.names, y.2 = .local → scope.names.lookup y.1 = some .local)
 (hloc : ∀ x ∈ xs, scope.names.lookup x = some .local) (hcov : ∀ z ∈ scope.names, z.2 = .free → z.1 ∈ fns) (hnd : (xs ++ js.map (fun j => X.N.getD j "")).Nodup)
 (hfr : ∀ j ∈ js, ∃ y, X.N[j]? = some y ∧ X.env.kindOf y = some .cell ∧ (relabel scope X.env).names.lookup y = some .cell ∧ y ∈ fns) : LcOkT X xs scope cl js where
 clos := hclos
 sub := fun y c e => hsub (y, c) (Qef e)
 kind := hkind
 cell := hcell
 names := hnames
 loc := hloc
 has := fun y h => by
  have : ∃ z ∈ scope.names, z.1 = y ∧ z.2 = .free := by
   rcases h with h | h
   ·exact Qa3 (.inl rfl) hcell h
   ·exact Qa3 (.inr rfl) hcell h
  obtain ⟨z, m, rfl, e⟩ := this
  exact Qcq (by rw [hf]; exact hcov z m e)
 nd := hnd
 fr := fun j hj => by
  obtain ⟨y, a, b, c, d⟩ := hfr j hj
  exact ⟨y, a, b, c, Qcq (by rw [hf]; exact d)⟩
section
variable {X : Cx}
end
end L2
namespace HT
open PySem PySem.Spec PyProof.Rows L2
section
variable {prog : Program} {w : World} {A : Around} {E : Q0} {s : Shared}
end
end HT
namespace L2
open PySem PySem.W PySem.Spec PyProof.Rows L3
section
variable {X : Cx}
end
end L2
namespace L2
open PySem PySem.Spec PyProof.Rows L3
def ItZ (K : Q4) (a b : Addr) : It :=
 ⟨fun i H => ∃ xs ys x y, SqL K H a xs ∧ SqL K H b ys ∧ xs[i]? = some x ∧ ys[i]? = some y,
  fun i H v H' => ∃ t x y, v = .ref t ∧ H t = none ∧ H' = upd H t (.tup [x, y]) ∧ (∀ xs, SqL K H a xs → xs[i]? = some x) ∧ ∀ ys, SqL K H b ys → ys[i]? = some y,
  fun i H => ∃ xs ys, SqL K H a xs ∧ SqL K H b ys ∧ (xs.length ≤ i ∨ ys.length ≤ i)⟩
section
variable {X : Cx} {pins : Q3} {σ : St} {H : Hp} {s : Shared} {h' : Heap}
theorem Inv.turnedT {fp : List Addr} {t : Addr} {o : HO} {t' : Nat} (I : Inv X pins σ H s) (hf : ∀ b ∈ fp, FpOk X pins H b) (k : ∀ b u, b ∉ fp → s.heap.get? b = some u → h'.get? b = some u) (ht : s.heap.objs.size ≤ t)
 (new : ObjOk X.prog X.w (upd H t o) h' t o) : Inv X pins σ (upd H t o) { s with heap := h', toks := t' } := by
 have hn : H t = none := I.hok.fresh ht
 have nf : ∀ b u, H b = some u → b ∉ fp := fun b u e z => by rw [(hf b z).1] at e; cases e
 refine I.call (g' := s.gens) (d' := s.drawn) (ch := fp) ⟨fun b o e n _ hx => k b o hx e, fun b o e n _ hx => ⟨o.slots, k b o hx e⟩, fun b o e n hx => ?_, fun b o e hx => ⟨o, k b o hx e⟩, fun b xs e => ?_, fun b o u e => ?_, fun b ps e => ?_⟩ (fun b u e => ?_) I.bare fun b hb => ?_
 ·have hb : b ≠ t := fun z => by
   have := Heap.lt_size e
   rw [z] at this
   exact absurd this (Nat.not_lt.mpr ht)
  rw [Qah hb]
  exact n
 ·rw [Qah (Qai e hn)]
  exact e
 ·rw [Qah (Qai e hn)]
  exact e
 ·exact ⟨#[], by rw [Qah (Qai e hn), e]; simp⟩
 ·by_cases hb : b = t
  ·subst hb
   rw [Qab] at e
   cases e
   exact new
  ·rw [Qah hb] at e
   refine (I.hok b u e).stay (fun c v hc' q => k c v ?_ q) (fun c q => by rw [Qah (Qai q hn)]; exact q) fun c xs q => by rw [Qah (Qai q hn)]; exact q
   rcases hc' with z | z
   ·rw [z]; exact nf b u e
   ·exact nf c _ z
 ·obtain ⟨_, f1, _, f3, f4, f5⟩ := hf b hb
  exact ⟨f3, f1, f4, f5⟩
theorem Inv.turnedF {fp : List Addr} {t' : Nat} (I : Inv X pins σ H s) (hf : ∀ b ∈ fp, FpOk X pins H b) (k : ∀ b u, b ∉ fp → s.heap.get? b = some u → h'.get? b = some u) : Inv X pins σ H { s with heap := h', toks := t' } := by
 have nf : ∀ b u, H b = some u → b ∉ fp := fun b u e z => by rw [(hf b z).1] at e; cases e
 refine I.call (g' := s.gens) (d' := s.drawn) (ch := fp) ⟨fun b o e n _ hx => k b o hx e, fun b o e n _ hx => ⟨o.slots, k b o hx e⟩, fun b o e n hx => n, fun b o e hx => ⟨o, k b o hx e⟩, fun b xs e => e, fun b o u e => e, fun b ps e => ⟨#[], by rw [e]; simp⟩⟩ (fun b u e => ?_) I.bare fun b hb => ?_
 ·refine (I.hok b u e).stay (fun c v hc' q => k c v ?_ q) (fun c q => q) fun c xs q => q
  rcases hc' with z | z
  ·rw [z]; exact nf b u e
  ·exact nf c _ z
 ·obtain ⟨_, f1, _, f3, f4, f5⟩ := hf b hb
  exact ⟨f3, f1, f4, f5⟩
end
theorem Qj3 {P : Program} {w : World} {K : Q4} {elts : List Expr} {x1} {pos : Pos} (a b z TI TO i1 i2 : Addr) (D : ZipApart z TI TO i1 i2 a b) :
 Turn P w K (.Tuple elts x1 pos) (ItZ K a b) [z, TI, TO, i1, i2] z (fun i h => IsZip h z TI TO .none ∧ IsPair h TI (.ref i1) (.ref i2) ∧ (∃ c d, IsPair h TO c d) ∧ h.IsListIter i1 a i ∧ h.IsListIter i2 b i) where
 mem := by simp
 obj := fun i h st c hc => by
  obtain ⟨hz, hTI, ⟨u, v, hTO⟩, ⟨o1, ho1, hc1, hd1⟩, ⟨o2, ho2, hc2, hd2⟩⟩ := st
  simp only [List.mem_cons, List.not_mem_nil, or_false] at hc
  rcases hc with rfl | rfl | rfl | rfl | rfl
  ·exact ⟨_, hz, fun v z => by have z' : Data.fields _ = Data.cell v := z; cases z'⟩
  ·exact ⟨_, hTI, fun v z => by have z' : Data.seq _ _ = Data.cell v := z; cases z'⟩
  ·exact ⟨_, hTO, fun v z => by have z' : Data.seq _ _ = Data.cell v := z; cases z'⟩
  ·exact ⟨o1, ho1, fun v z => by rw [hd1] at z; cases z⟩
  ·exact ⟨o2, ho2, fun v z => by rw [hd2] at z; cases z⟩
 keep := fun i h h' st k => by
  obtain ⟨hz, hTI, ⟨u, v, hTO⟩, h1, h2⟩ := st
  exact ⟨k z (by simp) _ hz, k TI (by simp) _ hTI, ⟨u, v, k TO (by simp) _ hTO⟩, h1.at fun o q => k i1 (by simp) o q, h2.at fun o q => k i2 (by simp) o q⟩
 item := by
  intro X hP hw hK hc i pins s σ H E I hf st hg
  subst hP hw hK
  obtain ⟨xs, ys, x, y, hq, hq2, hx, hy⟩ := hg
  obtain ⟨its, rv, p, hzz⟩ := I.list hq
  obtain ⟨its2, rv2, p2, hzz2⟩ := I.list hq2
  obtain ⟨u, hu, ru⟩ := rv.get hx
  obtain ⟨u2, hu2, ru2⟩ := rv2.get hy
  obtain ⟨hz, hTI, ⟨c, d, hTO⟩, h1, h2⟩ := st
  refine wpAny_pyNext_zip_item D hz hTI hTO h1 h2 p.isList p2.isList (x := u) (y := u2) (by simpa using hu) (by simpa using hu2) fun g hz' hTO' h1' h2' hT' hsz hk => ?_
  refine ⟨_, rfl, wpAny_letOwnedTupleGo_zip hz' fun g2 hz2 hs2 => ?_⟩
  replace hs2 : Heap.SameBut z g g2 := hs2
  have zl : z < s.heap.objs.size := Heap.lt_size hz
  have up : ∀ c o, c ≠ z → g.get? c = some o → g2.get? c = some o := fun c o hcz e => (hs2.2 c hcz).trans e
  have hT2 : g2.get? s.heap.objs.size = some { cls := .type "tuple", data := .seq #[u, u2] } := up _ _ (Nat.ne_of_gt zl) hT'
  have IC := I.turnedT (fp := [z, TI, TO, i1, i2]) (t := s.heap.objs.size) (o := .tup [x, y]) (t' := s.toks) (h' := g2) hf (fun b' o hb e => by
   simp only [List.mem_cons, List.not_mem_nil, or_false, not_or] at hb
   exact up _ _ hb.1 (hk b' o hb.1 hb.2.2.1 hb.2.2.2.1 hb.2.2.2.2 e)) (Nat.le_refl _) ⟨(by show 2 ≤ sizeLine; decide), [u, u2], .cons ru (.cons ru2 .nil), ⟨_, hT2, rfl, _, rfl⟩⟩
  refine ⟨.ref s.heap.objs.size, _, IC, rfl, ⟨_, x, y, rfl, I.hok.fresh (Nat.le_refl _), rfl, (fun zs hzs => by rw [I.Qdq hzs hq]; exact hx), fun zs hzs => by rw [I.Qdq hzs hq2]; exact hy⟩, ⟨hz2, up _ _ D.TIz (hk _ _ D.TIz D.TITO D.TIi1 D.TIi2 hTI), ⟨_, _, up _ _ D.TOz hTO'⟩, h1'.at fun o q => up _ _ D.i1z q, h2'.at fun o q => up _ _ D.i2z q⟩, fun b' hb => ?_⟩
  have bl : b' < s.heap.objs.size := by
   simp only [List.mem_cons, List.not_mem_nil, or_false] at hb
   obtain ⟨o1, ho1, _⟩ := id h1
   obtain ⟨o2, ho2, _⟩ := id h2
   rcases hb with rfl | rfl | rfl | rfl | rfl
   ·exact zl
   ·exact Heap.lt_size hTI
   ·exact Heap.lt_size hTO
   ·exact Heap.lt_size ho1
   ·exact Heap.lt_size ho2
  rw [Qah (Nat.ne_of_lt bl)]
  exact (hf b' hb).1
 done := by
  intro X hP hw hK hc i pins s σ H E I hf st hg
  subst hP hw hK
  obtain ⟨xs, ys, hq, hq2, hx⟩ := hg
  obtain ⟨its, rv, p, hzz⟩ := I.list hq
  obtain ⟨its2, rv2, p2, hzz2⟩ := I.list hq2
  obtain ⟨hz, hTI, ⟨c, d, hTO⟩, h1, h2⟩ := st
  have hl := rv.length
  have hl2 := rv2.length
  refine wpAny_pyNext_zip_end (I.ok.hd hc) D hz hTI hTO h1 h2 p.isList p2.isList (by simp; omega) fun g hk => ⟨rfl, I.turnedF (fp := [z, TI, TO, i1, i2]) (t' := s.toks) hf fun b' o hb e => ?_⟩
  simp only [List.mem_cons, List.not_mem_nil, or_false, not_or] at hb
  exact hk b' o hb.1 hb.2.2.1 hb.2.2.2.1 hb.2.2.2.2 e
 self := fun _ _ _ _ _ st h => wpAny_pyIter_zip st.1 h
section
variable {X : Cx}
def iZip (K : Q4) (ta : TA) : TI := fun σ H R => ta σ H fun vs H1 => ∃ a b, vs = [.ref a, .ref b] ∧ (∃ xs, SqL K H1 a xs) ∧ (∃ ys, SqL K H1 b ys) ∧ R (ItZ K a b) H1
theorem Qlj {l m : Expr} {elts : List Expr} {x1} {tp : Pos} {ta : TA} {p pos : Pos} (hg : Gl X "zip") (hm : X.mg "zip" = none) (ha : PA X [l, m] ta) (hs : starEach [l, m] X.env = (false, eval l X.env) :: starEach [m] X.env := by rfl) (hs2 : starEach [m] X.env = [(false, eval m X.env)] := by rfl) :
 PI X (.Tuple elts x1 tp) (.Call (.Name "zip" p) [l, m] [] pos) (iZip X.K ta) := by
 intro pins s σ H R I h
 refine Call_ (Qdi I hg hm boot_zip (PyProof.Rows.callWith_type1 (thn (ha pos pins s σ H _ I h) fun us s1 ⟨vs, H1, I1, r1, q1⟩ => ?_) (by rw [hs, hs2]) (by rw [hs2]; rfl)))
 obtain ⟨a, b, e, ⟨xs, hq⟩, ⟨ys, hq2⟩, q⟩ := q1
 subst e
 cases r1 with
 | cons r rr =>
   cases rr with
   | cons r2 rr =>
     cases rr
     cases r
     cases r2
     obtain ⟨its, rv, p, hz⟩ := I1.list hq
     obtain ⟨its2, rv2, p2, hz2⟩ := I1.list hq2
     refine call_zip_2 p.isList p2.isList fun h' hzi hTI hTO hi1 hi2 hsz hk => ?_
     refine wpAny_pyIter_zip hzi ?_
     have a1 : a < s1.heap.objs.size := by obtain ⟨_, e, _⟩ := p.isList; exact Heap.lt_size e
     have a2 : b < s1.heap.objs.size := by obtain ⟨_, e, _⟩ := p2.isList; exact Heap.lt_size e
     refine ⟨s1.heap.objs.size + 4, [s1.heap.objs.size + 4, s1.heap.objs.size + 2, s1.heap.objs.size + 3, s1.heap.objs.size, s1.heap.objs.size + 1], _, _, H1, rfl, I1.kept (t' := s1.toks) hk, Qj3 a b _ _ _ _ _ (zipApart_new a1 a2), ⟨hzi, hTI, ⟨_, _, hTO⟩, hi1, hi2⟩, fun c hc => ?_, q⟩
     have hge : s1.heap.objs.size ≤ c := by
      simp only [List.mem_cons, List.not_mem_nil, or_false] at hc
      rcases hc with rfl | rfl | rfl | rfl | rfl
      ·exact Nat.le_add_right _ 4
      ·exact Nat.le_add_right _ 2
      ·exact Nat.le_add_right _ 3
      ·exact Nat.le_refl _
      ·exact Nat.le_add_right _ 1
     exact I1.fpOk hge (I1.hok.fresh hge)
theorem Qlo {K : Q4} {a b : Addr} {xs ys : List V} {T : V → Hp → VK → Prop} {R : Addr → Hp → List V → Prop} {H : Hp} (Pv : Nat → List V → Hp → Prop) (h0 : Pv 0 [] H) (hxy : xs.length = ys.length) (hn : xs.length ≤ sizeLine) (hl : ∀ i zs H, i ≤ xs.length → Pv i zs H → SqL K H a xs ∧ SqL K H b ys ∧ zs.length = i)
 (hs : ∀ i x y zs H t, xs[i]? = some x → ys[i]? = some y → Pv i zs H → H t = none → T (.ref t) (upd H t (.tup [x, y])) fun y H2 => Pv (i + 1) (zs ++ [y]) H2) (hd : ∀ zs H, Pv xs.length zs H → ∀ l, H l = none → R l H zs) :
 ∃ W : Nat → Nat → List V → Hp → Prop, (∃ m, W 0 m [] H) ∧ ∀ i m zs H, W i m zs H →
   ((ItZ K a b).stop i H ∧ ∀ l, H l = none → R l H zs) ∨ ((ItZ K a b).go i H ∧ zs.length < sizeLine ∧ ∃ N : VK, (∀ y H2, N y H2 → ∃ m', m' < m ∧ W (i + 1) m' (zs ++ [y]) H2) ∧ ∀ x H', (ItZ K a b).yld i H x H' → T x H' N) := by
 refine ⟨fun i m zs H => m = xs.length - i ∧ i ≤ xs.length ∧ Pv i zs H, ⟨xs.length, by simp, Nat.zero_le _, h0⟩, ?_⟩
 rintro i m zs H ⟨rfl, hi, p⟩
 obtain ⟨q, q2, hy⟩ := hl i zs H hi p
 by_cases hlt : i < xs.length
 ·have hlt2 : i < ys.length := by omega
  refine .inr ⟨⟨xs, ys, xs[i], ys[i], q, q2, by simp [hlt], by simp [hlt2]⟩, by omega, fun y H2 => Pv (i + 1) (zs ++ [y]) H2, fun y H2 p' => ⟨xs.length - (i + 1), by omega, rfl, hlt, p'⟩, fun x H' hyld => ?_⟩
  obtain ⟨t, x, y, rfl, ht, rfl, h1, h2⟩ := hyld
  exact hs i x y zs _ t (h1 xs q) (h2 ys q2) p ht
 ·have e : i = xs.length := by omega
  subst e
  exact .inl ⟨⟨xs, ys, q, q2, .inl (Nat.le_refl _)⟩, hd zs H p⟩
theorem Qix {K : Q4} {a : Addr} {xs : List V} {T : V → Hp → VK → Prop} {R : Addr → Hp → List V → Prop} {H : Hp} (Pv : Nat → List V → Hp → Prop) (h0 : Pv 0 [] H) (hn : xs.length ≤ sizeLine) (hl : ∀ i zs H, i ≤ xs.length → Pv i zs H → SqL K H a xs ∧ zs.length = i)
 (hs : ∀ i x zs H t, xs[i]? = some x → Pv i zs H → H t = none → T (.ref t) (upd H t (.tup [.int (i : Int), x])) fun y H2 => Pv (i + 1) (zs ++ [y]) H2) (hd : ∀ zs H, Pv xs.length zs H → ∀ l, H l = none → R l H zs) :
 ∃ W : Nat → Nat → List V → Hp → Prop, (∃ m, W 0 m [] H) ∧ ∀ i m zs H, W i m zs H →
   ((ItE K a).stop i H ∧ ∀ l, H l = none → R l H zs) ∨ ((ItE K a).go i H ∧ zs.length < sizeLine ∧ ∃ N : VK, (∀ y H2, N y H2 → ∃ m', m' < m ∧ W (i + 1) m' (zs ++ [y]) H2) ∧ ∀ x H', (ItE K a).yld i H x H' → T x H' N) := by
 refine ⟨fun i m zs H => m = xs.length - i ∧ i ≤ xs.length ∧ Pv i zs H, ⟨xs.length, by simp, Nat.zero_le _, h0⟩, ?_⟩
 rintro i m zs H ⟨rfl, hi, p⟩
 obtain ⟨q, hy⟩ := hl i zs H hi p
 by_cases hlt : i < xs.length
 ·refine .inr ⟨⟨xs, xs[i], q, by simp [hlt]⟩, by omega, fun y H2 => Pv (i + 1) (zs ++ [y]) H2, fun y H2 p' => ⟨xs.length - (i + 1), by omega, rfl, hlt, p'⟩, fun x H' hyld => ?_⟩
  obtain ⟨t, x, rfl, ht, rfl, h1⟩ := hyld
  exact hs i x zs _ t (h1 xs q) p ht
 ·have e : i = xs.length := by omega
  subst e
  exact .inl ⟨⟨xs, q, Nat.le_refl _⟩, hd zs H p⟩
theorem mulN {x y : Int} {n m : Nat} (h1 : x.natAbs < 2 ^ n) (h2 : y.natAbs < 2 ^ m) (hn : n ≤ 4000) (hm : m ≤ 4000) : IntMulOk x y :=
 PySem.IntMulOk.of_le (PySem.intBits_le_iff.mpr (Nat.lt_of_lt_of_le h1 (Nat.pow_le_pow_right (by decide) hn))) (PySem.intBits_le_iff.mpr (Nat.lt_of_lt_of_le h2 (Nat.pow_le_pow_right (by decide) hm))) (by decide)
theorem logN {y : Int} {n : Nat} (h0 : y ≠ 0) (h : y.natAbs < 2 ^ n) (hn : n ≤ 4000) : y ≠ 0 ∧ y.natAbs.log2 < 9000 := by
 have n0 : y.natAbs ≠ 0 := by omega
 have := (Nat.log2_lt n0).mpr h
 exact ⟨h0, by omega⟩
end
end L2
namespace L2
open PySem PySem.Spec PyProof.Rows L3
section
variable {X : Cx}
structure LcOkN (X : Cx) (x : Str) (scope : Scope) (cl : List (Str × Addr)) (js : List Nat) : Prop where
 clos : closureFor scope X.env = pure cl
 sub : ∀ y c, cl.lookup y = some c → X.env.cells.lookup y = some c
 kind : scope.kind = .function
 cf : ∀ n acc, cellsFrom n scope.names acc = (x, n) :: acc
 pc : ∀ h, pushCells h scope.names = h.push { cls := .type "cell", data := .cell none }
 names : ∀ y ∈ scope.names, y.2 = .local → scope.names.lookup y.1 = some .local
 xk : (relabel scope X.env).names.lookup x = some .cell
 has : ∀ y, y ≠ x → (((relabel scope X.env).names.lookup y = some .cell) ∨ ((relabel scope X.env).names.lookup y = some .free)) → ∃ c, cl.lookup y = some c
 nd : (x :: js.map (fun j => X.N.getD j "")).Nodup
 fr : ∀ j ∈ js, ∃ y, X.N[j]? = some y ∧ X.env.kindOf y = some .cell ∧ (relabel scope X.env).names.lookup y = some .cell ∧ ∃ c, cl.lookup y = some c
end
section
variable {X : Cx} {x : Str} {scope : Scope} {cl : List (Str × Addr)} {C : Addr} {s2 : Shared} {H2 : Hp} {fp : List Addr} {N' : List Str} {xe : Q0}
end
end L2
namespace L2
open PySem PySem.Spec PyProof.Rows L3
section
variable {X : Cx}
end
section
variable {X : Cx} {x : Addr} {o e : Expr} {es : List Expr} {to : TE} {t : TA} {name : Str} {apos cpos : Pos} {T id : String} {r : V → List V → Hp → VK → Prop}
theorem Qmo (pa : PlainAttrs T) (slot : Slot T name id) (hty : typeOf (.builtin id) = pure (.type "method_descriptor")) (hm : MtR (sup X x) id r) (ho : PE (sup X x) o to)
 (hbase : attributeBase o name (sup X x).env (eval o (sup X x).env) = eval o (sup X x).env := by rfl) (hline : (apos.endLine == cpos.line) = true := by rfl) : PE (sup X x) (.Call (.Attribute o name apos) [] [] cpos) (tBM0 X.K T r to) := pe_bm0 (X := sup X x) pa slot hty hm ho hbase hline
end
end L2
namespace PySem.F
end PySem.F
namespace L2
open PySem PySem.Spec PyProof.Rows
section
variable {prog : Program} {w : World} {A : Around} {E : Q0} {s : Shared}
end
end L2
namespace L2
open PySem PySem.Spec PyProof.Rows L3
section
variable {X : Cx} {tg : Expr}
end
section
variable {X : Cx}
end
section
variable {X : Cx}
end
section
variable {X : Cx} {k : Nat} {f : Addr} {fd : FuncData} {ps : List Str} {sp : Sp} {x : Str} {p pos : Pos} {e : Expr} {es : List Expr} {t : TA} {x0 : Addr}
end
end L2
namespace N11
def gF (a b : Int) : Int := (Int.gcd a b : Nat)
theorem g_abs (a b : Int) : Int.gcd (a.natAbs : Int) (b.natAbs : Int) = Int.gcd a b := rfl
theorem g_turn {a b : Int} (ha : 0 ≤ a) (hb : 0 < b) : Int.gcd b (a.fmod b) = Int.gcd a b := by
 rw [Int.fmod_eq_emod_of_nonneg a (Int.le_of_lt hb)]
 obtain ⟨m, rfl⟩ := Int.eq_ofNat_of_zero_le ha
 obtain ⟨n, rfl⟩ := Int.eq_ofNat_of_zero_le (Int.le_of_lt hb)
 show Nat.gcd n (((m : Int) % (n : Int)).natAbs) = Nat.gcd m n
 rw [← Int.natCast_emod, Int.natAbs_natCast, Nat.gcd_comm n, ← Nat.gcd_rec, Nat.gcd_comm]
theorem g_out {a : Int} (ha : 0 ≤ a) : (Int.gcd a 0 : Int) = a := by
 rw [Int.gcd_zero_right]
 omega
theorem frac {t b g : Int} (hb : b ≠ 0) (hg : g = (if b < 0 then -(gF t b) else gF t b)) :
 g ≠ 0 ∧ (Int.fdiv b g ≥ 1) ∧ gF (Int.fdiv t g) (Int.fdiv b g) = 1 ∧ Int.fdiv t g * b = t * Int.fdiv b g ∧ Int.fdiv t g * g = t ∧ Int.fdiv b g * g = b := by
 have g0 : 0 < Int.gcd t b := Int.gcd_pos_of_ne_zero_right t hb
 have gd : g ≠ 0 := by rw [hg]; unfold gF; split <;> omega
 have d1 : (Int.gcd t b : Int) ∣ t := Int.gcd_dvd_left ..
 have d2 : (Int.gcd t b : Int) ∣ b := Int.gcd_dvd_right ..
 have e1 : g ∣ t := by
  rw [hg]; unfold gF; split
  ·exact (Int.neg_dvd).mpr d1
  ·exact d1
 have e2 : g ∣ b := by
  rw [hg]; unfold gF; split
  ·exact (Int.neg_dvd).mpr d2
  ·exact d2
 obtain ⟨x, hx⟩ := e1
 obtain ⟨y, hy⟩ := e2
 have fx : Int.fdiv t g = x := by rw [hx]; exact Int.mul_fdiv_cancel_left x gd
 have fy : Int.fdiv b g = y := by rw [hy]; exact Int.mul_fdiv_cancel_left y gd
 rw [fx, fy]
 have na : g.natAbs = Int.gcd t b := by rw [hg]; unfold gF; split <;> omega
 have gg : Int.gcd x y = 1 := by
  have : Int.gcd t b = g.natAbs * Int.gcd x y := by
   conv => lhs; rw [hx, hy]
   rw [Int.gcd_mul_left]
  rw [na] at this
  exact Nat.eq_of_mul_eq_mul_left g0 (by omega)
 refine ⟨gd, ?_, ?_, ?_, ?_, ?_⟩
 ·-- y ≥ 1
  by_cases c : b < 0
  ·rw [if_pos c] at hg
   have gn : g < 0 := by rw [hg]; unfold gF; omega
   by_cases z : 1 ≤ y
   ·exact z
   ·exfalso
    have := Int.mul_nonneg (show (0 : Int) ≤ -g by omega) (show (0 : Int) ≤ -y by omega)
    rw [Int.neg_mul_neg] at this
    omega
  ·rw [if_neg c] at hg
   have gn : 0 < g := by rw [hg]; unfold gF; omega
   by_cases z : 1 ≤ y
   ·exact z
   ·exfalso
    have := Int.mul_nonneg (show (0 : Int) ≤ g by omega) (show (0 : Int) ≤ -y by omega)
    rw [Int.mul_neg] at this
    omega
 ·unfold gF; rw [gg]; rfl
 ·rw [hy, hx]; rw [Int.mul_comm g x, Int.mul_assoc]
 ·rw [hx, Int.mul_comm]
 ·rw [hy, Int.mul_comm]
end N11
namespace N11
structure GI (o p a b : Int) : Prop where
 is : gF a b = gF o p
theorem g_told (t b : Int) : 0 ≤ gF t b ∧ (b = 0 ∨ (0 < gF t b ∧ gF t b ≤ (b.natAbs : Int))) := by
 refine ⟨by unfold gF; omega, ?_⟩
 by_cases c : b = 0
 ·exact .inl c
 ·have g0 : 0 < Int.gcd t b := Int.gcd_pos_of_ne_zero_right t c
  have d := Nat.le_of_dvd (show 0 < b.natAbs by omega) (Int.gcd_dvd_natAbs_right t b)
  exact .inr ⟨by unfold gF; omega, by unfold gF; omega⟩
theorem Qf8 (a b : Int) : (Int.fdiv a b).natAbs ≤ a.natAbs := by
 rcases a with (_ | k) | k <;> rcases b with (_ | j) | j
 all_goals first
  | exact Nat.zero_le _
  | exact Nat.div_le_self _ _
  | exact Nat.succ_le_succ (Nat.div_le_self _ _)
  | (show (Int.fdiv 0 _).natAbs ≤ 0; rw [Int.zero_fdiv]; exact Nat.le_refl _)
theorem low {t b d : Int} (hb : b ≠ 0) (hd : d = (if b < 0 then -(gF t b) else gF t b)) :
 1 ≤ Int.fdiv b d ∧ Int.fdiv b d ≤ (b.natAbs : Int) ∧ -(t.natAbs : Int) ≤ Int.fdiv t d ∧ Int.fdiv t d ≤ (t.natAbs : Int) ∧
 gF (Int.fdiv t d) (Int.fdiv b d) = 1 ∧ Int.fdiv t d * b = t * Int.fdiv b d := by
 have h := frac (t := t) (b := b) (g := d) hb hd
 have f1 := Qf8 b d
 have f2 := Qf8 t d
 exact ⟨h.2.1, by omega, by omega, by omega, h.2.2.1, h.2.2.2.1⟩
end N11
namespace N11
theorem Qm8 {a b : Int} (ha : 0 ≤ a) (hb : 0 < b) : gF b (a % b) = gF a b := by
 have h := g_turn ha hb
 rw [Int.fmod_eq_emod_of_nonneg a (Int.le_of_lt hb)] at h
 unfold gF
 rw [h]
theorem Qm9 (a b : Int) : gF ((a.natAbs : Nat) : Int) ((b.natAbs : Nat) : Int) = gF a b := by
 unfold gF
 rw [g_abs]
theorem g_end {a b x : Int} (h : gF x 0 = gF a b) (hx : 0 ≤ x) : x = gF a b := by
 rw [← h]
 unfold gF
 rw [g_out hx]
def dF (t b : Int) : Int := if b < 0 then -(gF t b) else gF t b
theorem dF_in {t b : Int} (hb : b ≠ 0) : dF t b ≠ 0 ∧ (dF t b).natAbs ≤ b.natAbs := by
 have h := g_told t b
 unfold dF
 split <;> omega
theorem lowD {t b : Int} (hb : b ≠ 0) : 1 ≤ Int.fdiv b (dF t b) ∧ Int.fdiv b (dF t b) ≤ (b.natAbs : Int) ∧ (Int.fdiv t (dF t b)).natAbs ≤ t.natAbs ∧ gF (Int.fdiv t (dF t b)) (Int.fdiv b (dF t b)) = 1 ∧ Int.fdiv t (dF t b) * b = t * Int.fdiv b (dF t b) := by
 have h := low (t := t) (b := b) (d := dF t b) hb rfl
 exact ⟨h.1, h.2.1, by omega, h.2.2.2.2.1, h.2.2.2.2.2⟩
end N11
namespace N45
theorem gF_l (a b : Int) : N11.gF a b ∣ a := Int.gcd_dvd_left ..
theorem gF_r (a b : Int) : N11.gF a b ∣ b := Int.gcd_dvd_right ..
theorem gF_max {a b d : Int} (h1 : d ∣ a) (h2 : d ∣ b) : d ∣ N11.gF a b := Int.dvd_coe_gcd h1 h2
theorem gF_nn (a b : Int) : 0 ≤ N11.gF a b := Int.natCast_nonneg _
def gL (a : Int) (r : List Int) : Int := r.foldl N11.gF a
theorem Qna (a x : Int) (r : List Int) : gL a (x :: r) = gL (N11.gF a x) r := rfl
theorem gL_app (a x : Int) (r : List Int) : gL a (r ++ [x]) = N11.gF (gL a r) x := by
 unfold gL
 rw [List.foldl_append]
 rfl
theorem Qkz : ∀ (r : List Int) (a : Int), 0 ≤ a → 0 ≤ gL a r
 | [], _, h => h
 | x :: r, a, _ => Qkz r _ (gF_nn a x)
theorem Qeg : ∀ (r : List Int) (a : Int), gL a r ∣ a ∧ ∀ x ∈ r, gL a r ∣ x
 | [], a => ⟨Int.dvd_refl a, fun _ h => nomatch h⟩
 | x :: r, a => by
   obtain ⟨h1, h2⟩ := Qeg r (N11.gF a x)
   rw [Qna]
   refine ⟨Int.dvd_trans h1 (gF_l a x), fun y hy => ?_⟩
   rcases List.mem_cons.mp hy with e | e
   ·rw [e]
    exact Int.dvd_trans h1 (gF_r a x)
   ·exact h2 y e
theorem Qjh : ∀ (r : List Int) (a d : Int), d ∣ a → (∀ x ∈ r, d ∣ x) → d ∣ gL a r
 | [], _, _, h, _ => h
 | x :: r, a, d, h, hr => Qjh r _ d (gF_max h (hr x List.mem_cons_self)) fun y hy => hr y (List.mem_cons_of_mem _ hy)
def gt (r : List Int) (j : Nat) : Int := r.getD j 0
theorem Qfh {r : List Int} {j : Nat} (h : j < r.length) : gt r j ∈ r := by
 unfold gt
 rw [List.getD_eq_getElem?_getD, List.getElem?_eq_getElem h]
 exact List.getElem_mem h
theorem Qdf {r : List Int} {j : Nat} (h : j < r.length) : r[j]? = some (gt r j) := by
 unfold gt
 rw [List.getD_eq_getElem?_getD, List.getElem?_eq_getElem h]
 rfl
theorem Qdj {r : List Int} {j : Nat} (h : r.length ≤ j) : gt r j = 0 := by
 unfold gt
 rw [List.getD_eq_getElem?_getD, List.getElem?_eq_none h]
 rfl
theorem Qln {r : List Int} {x : Int} (h : x ∈ r) : ∃ j, j < r.length ∧ gt r j = x := by
 obtain ⟨j, hj, e⟩ := List.getElem_of_mem h
 refine ⟨j, hj, ?_⟩
 unfold gt
 rw [List.getD_eq_getElem?_getD, List.getElem?_eq_getElem hj]
 exact e
theorem Qg5 (f : Int → Int) {r : List Int} {j : Nat} (h : j < r.length) : gt (r.map f) j = f (gt r j) := by
 unfold gt
 rw [List.getD_eq_getElem?_getD, List.getD_eq_getElem?_getD, List.getElem?_map, List.getElem?_eq_getElem h]
 rfl
theorem Qkx {r s : List Int} {j : Nat} (h : j < r.length) : gt (r ++ s) j = gt r j := by
 unfold gt
 rw [List.getD_eq_getElem?_getD, List.getD_eq_getElem?_getD, List.getElem?_append_left h]
theorem Qg6 (r s : List Int) (j : Nat) : gt (r ++ s) (r.length + j) = gt s j := by
 unfold gt
 rw [List.getD_eq_getElem?_getD, List.getD_eq_getElem?_getD, List.getElem?_append_right (by omega)]
 congr 2
 omega
theorem Qeu (r : List Int) (m j : Nat) : gt (r.drop m) j = gt r (m + j) := by
 unfold gt
 rw [List.getD_eq_getElem?_getD, List.getD_eq_getElem?_getD, List.getElem?_drop]
def leanF (r : List Int) : List Int := r.map fun x => x.fdiv (gL 0 r)
theorem Qet (r : List Int) : (leanF r).length = r.length := List.length_map ..
theorem Qiw {r : List Int} (h : gL 0 r ≠ 0) (j : Nat) : gt (leanF r) j * gL 0 r = gt r j := by
 by_cases hj : j < r.length
 ·unfold leanF
  rw [Qg5 _ hj]
  obtain ⟨c, hc⟩ := (Qeg r 0).2 _ (Qfh hj)
  rw [hc, Int.mul_fdiv_cancel_left c h, Int.mul_comm]
 ·rw [Qdj (by rw [Qet]; omega), Qdj (by omega), Int.zero_mul]
theorem Qkp {r : List Int} (h : gL 0 r ≠ 0) : gL 0 (leanF r) = 1 := by
 have n0 := Qkz (leanF r) 0 (Int.le_refl _)
 have nr := Qkz r 0 (Int.le_refl _)
 have d1 : gL 0 (leanF r) * gL 0 r ∣ gL 0 r := by
  refine Qjh r 0 _ (Int.dvd_zero _) fun x hx => ?_
  obtain ⟨j, hj, e⟩ := Qln hx
  rw [← e, ← Qiw h j]
  exact Int.mul_dvd_mul_right _ ((Qeg (leanF r) 0).2 _ (Qfh (by rw [Qet]; exact hj)))
 obtain ⟨c, hc⟩ := d1
 have h1 : gL 0 (leanF r) * c = 1 := by
  have : gL 0 r * (gL 0 (leanF r) * c) = gL 0 r * 1 := by
   rw [Int.mul_one]
   conv => rhs; rw [hc]
   rw [← Int.mul_assoc, Int.mul_comm (gL 0 r)]
  exact Int.eq_of_mul_eq_mul_left h this
 exact Int.eq_one_of_mul_eq_one_right n0 h1
def Bt (n : Nat) (x : Int) : Prop := x.natAbs < 2 ^ n
theorem Bt.mono {n m : Nat} {x : Int} (h : Bt n x) (hm : n ≤ m) : Bt m x := Nat.lt_of_lt_of_le h (Nat.pow_le_pow_right (by decide) hm)
theorem Bt.mul {n m : Nat} {x y : Int} (h : Bt n x) (h2 : Bt m y) : Bt (n + m) (x * y) := by
 unfold Bt
 rw [Int.natAbs_mul, Nat.pow_add]
 exact Nat.mul_lt_mul'' h h2
theorem Bt.sub {n : Nat} {x y : Int} (h : Bt n x) (h2 : Bt n y) : Bt (n + 1) (x - y) := by
 unfold Bt at h h2 ⊢
 rw [Nat.pow_succ]
 omega
theorem Qm0 {n : Nat} {r : List Int} (h : ∀ x ∈ r, Bt n x) : ∀ x ∈ leanF r, Bt n x := fun x hx => by
 obtain ⟨y, hy, rfl⟩ := List.mem_map.mp hx
 exact Nat.lt_of_le_of_lt (N11.Qf8 y _) (h y hy)
theorem Qe0 {n : Nat} {r : List Int} (h : ∀ x ∈ r, Bt n x) (j : Nat) : Bt n (gt r j) := by
 by_cases hj : j < r.length
 ·exact h _ (Qfh hj)
 ·rw [Qdj (by omega)]
  show (0 : Int).natAbs < 2 ^ n
  exact Nat.pow_pos (by decide)
def crude (n b : List Int) (p : Nat) : List Int := (n.zip b).map fun z => z.1 * gt b p - z.2 * gt n p
theorem Qda {n b : List Int} (p : Nat) (h : n.length = b.length) : (crude n b p).length = n.length := by
 unfold crude
 rw [List.length_map, List.length_zip]
 omega
theorem Qdt {n b : List Int} (p : Nat) (h : n.length = b.length) (j : Nat) : gt (crude n b p) j = gt n j * gt b p - gt b j * gt n p := by
 by_cases hj : j < n.length
 ·have h1 : (n.zip b)[j]? = some (gt n j, gt b j) := by
   rw [List.getElem?_zip_eq_some]
   exact ⟨Qdf hj, Qdf (by omega)⟩
  show (crude n b p).getD j 0 = _
  unfold crude
  rw [List.getD_eq_getElem?_getD, List.getElem?_map, h1]
  rfl
 ·rw [Qdj (r := crude n b p) (j := j) (by rw [Qda p h]; omega), Qdj (r := n) (j := j) (by omega), Qdj (r := b) (j := j) (by omega), Int.zero_mul, Int.zero_mul, Int.sub_zero]
theorem Qg9 {n b : List Int} {p e : Nat} (h : n.length = b.length) (h1 : ∀ x ∈ n, Bt e x) (h2 : ∀ x ∈ b, Bt e x) : ∀ x ∈ crude n b p, Bt (2 * e + 1) x := fun x hx => by
 obtain ⟨j, hj, rfl⟩ := Qln hx
 rw [Qdt p h]
 rw [Nat.two_mul]
 exact ((Qe0 h1 j).mul (Qe0 h2 p)).sub ((Qe0 h2 j).mul (Qe0 h1 p))
def clr (n b : List Int) (p : Nat) : List Int := leanF (crude n b p)
def sm : Nat → (Nat → Int) → Int
 | 0, _ => 0
 | n + 1, f => sm n f + f n
theorem Qlb (a b : Int) (f g : Nat → Int) : ∀ n, sm n (fun k => f k * a - g k * b) = sm n f * a - sm n g * b
 | 0 => by simp [sm]
 | n + 1 => by
   show sm n (fun k => f k * a - g k * b) + (f n * a - g n * b) = (sm n f + f n) * a - (sm n g + g n) * b
   rw [Qlb a b f g n, Int.add_mul, Int.add_mul]
   omega
theorem Qgl (a : Int) (f g : Nat → Int) : ∀ n, (∀ k < n, f k * a = g k) → sm n f * a = sm n g
 | 0, _ => by simp [sm]
 | n + 1, h => by
   show (sm n f + f n) * a = sm n g + g n
   rw [Int.add_mul, Qgl a f g n fun k hk => h k (by omega), h n (by omega)]
theorem Qcn {f g : Nat → Int} : ∀ n, (∀ k < n, f k = g k) → sm n f = sm n g
 | 0, _ => rfl
 | n + 1, h => by
   show sm n f + f n = sm n g + g n
   rw [Qcn n fun k hk => h k (by omega), h n (by omega)]
theorem Qei {f : Nat → Int} {i : Nat} : ∀ n, (∀ k < n, k ≠ i → f k = 0) → sm n f = if i < n then f i else 0
 | 0, _ => by simp [sm]
 | n + 1, h => by
   show sm n f + f n = _
   rw [Qei n fun k hk => h k (by omega)]
   by_cases hi : i < n
   ·rw [if_pos hi, if_pos (by omega), h n (by omega) (by omega)]
    omega
   ·rw [if_neg hi]
    by_cases e : i = n
    ·subst e
     rw [if_pos (by omega)]
     omega
    ·rw [if_neg (by omega), h n (by omega) (by omega)]
     omega
abbrev Sq := List (List Int)
def mx (S : Sq) (c : List Int) (j : Nat) : Int := sm S.length fun k => gt c k * gt (S.getD k []) j
def uni (m k : Nat) (x : Int) : List Int := (List.range m).map fun i => if i = k then x else 0
theorem Qhr (m k : Nat) (x : Int) : (uni m k x).length = m := by simp [uni]
theorem Qgg (m k : Nat) (x : Int) (i : Nat) (h : i < m) : gt (uni m k x) i = if i = k then x else 0 := by
 unfold gt uni
 rw [List.getD_eq_getElem?_getD, List.getElem?_map, List.getElem?_range h]
 rfl
def wid (S : Sq) : Sq := (List.range S.length).map fun k => S.getD k [] ++ uni S.length k 1
abbrev Kr := Nat × List Int
structure Row (S : Sq) (e : Nat) (z : Kr) : Prop where
 len : z.2.length = 2 * S.length
 lin : ∀ j < S.length, gt z.2 j = mx S (z.2.drop S.length) j
 one : gL 0 z.2 = 1
 bt : ∀ x ∈ z.2, Bt e x
 key : gt z.2 z.1 ≠ 0
theorem Row.mono {S : Sq} {e e' : Nat} {z : Kr} (h : Row S e z) (he : e ≤ e') : Row S e' z := ⟨h.len, h.lin, h.one, fun x hx => (h.bt x hx).mono he, h.key⟩
theorem Row.key_lt {S : Sq} {e : Nat} {z : Kr} (h : Row S e z) : z.1 < 2 * S.length := by
 by_cases c : z.1 < 2 * S.length
 ·exact c
 ·exact absurd (Qdj (by rw [h.len]; omega)) h.key
def Ap (x y : Kr) : Prop := gt x.2 y.1 = 0 ∧ gt y.2 x.1 = 0
theorem Qd5 {n b : List Int} {p : Nat} (hl : n.length = b.length) (hg : gL 0 (crude n b p) ≠ 0) (j : Nat) : gt (clr n b p) j * gL 0 (crude n b p) = gt n j * gt b p - gt b j * gt n p := by
 unfold clr
 rw [Qiw hg, Qdt p hl]
theorem Qno {n b : List Int} {p : Nat} (hl : n.length = b.length) : (clr n b p).length = n.length := by
 unfold clr
 rw [Qet, Qda p hl]
theorem Qew {z b : Kr} {p : Nat} (hl : z.2.length = b.2.length) (hz : gt z.2 z.1 ≠ 0) (hb : gt b.2 p ≠ 0) (h0 : gt b.2 z.1 = 0) : gL 0 (crude z.2 b.2 p) ≠ 0 := fun h => by
 have h1 := Qdt p hl z.1
 rw [h0, Int.zero_mul, Int.sub_zero] at h1
 have hlt : z.1 < (crude z.2 b.2 p).length := by
  rw [Qda p hl]
  by_cases c : z.1 < z.2.length
  ·exact c
  ·exact absurd (Qdj (by omega)) hz
 have d := (Qeg (crude z.2 b.2 p) 0).2 _ (Qfh hlt)
 rw [h] at d
 have := Int.zero_dvd.mp d
 rw [this] at h1
 rcases Int.mul_eq_zero.mp h1.symm with c | c
 ·exact hz c
 ·exact hb c
theorem Qkm {a b : Int} (h : a * b = 0) (hb : b ≠ 0) : a = 0 := by
 rcases Int.mul_eq_zero.mp h with c | c
 ·exact c
 ·exact absurd c hb
theorem Row.clr {S : Sq} {e p : Nat} {z b : Kr} (hz : Row S e z) (hb : Row S e b) (hp : gt b.2 p ≠ 0) (h0 : gt b.2 z.1 = 0) : Row S (2 * e + 1) (z.1, clr z.2 b.2 p) := by
 have hl : z.2.length = b.2.length := hz.len.trans hb.len.symm
 have hg := Qew hl hz.key hp h0
 have hlc := Qno (p := p) hl
 refine ⟨hlc.trans hz.len, fun j hj => ?_, Qkp hg, Qm0 (Qg9 hl hz.bt hb.bt), fun h => ?_⟩
 ·refine Int.eq_of_mul_eq_mul_right hg ?_
  show gt (N45.clr z.2 b.2 p) j * _ = _
  rw [Qd5 hl hg, hz.lin j hj, hb.lin j hj]
  unfold mx
  rw [← Qlb]
  symm
  refine Qgl _ _ _ _ fun k hk => ?_
  show gt (List.drop S.length (N45.clr z.2 b.2 p)) k * _ * _ = _
  rw [Qeu, Qeu, Qeu, Int.mul_right_comm, Qd5 hl hg, Int.sub_mul]
  congr 1
  ·rw [Int.mul_right_comm]
  ·rw [Int.mul_right_comm]
 ·have h1 := Qd5 (p := p) hl hg z.1
  rw [show gt (N45.clr z.2 b.2 p) z.1 = 0 from h, h0, Int.zero_mul, Int.zero_mul, Int.sub_zero] at h1
  rcases Int.mul_eq_zero.mp h1.symm with c | c
  ·exact hz.key c
  ·exact hp c
def kclr (b : Kr) (p : Nat) (z : Kr) : Kr := (z.1, clr z.2 b.2 p)
structure Tn (S : Sq) (e p : Nat) (LA LB : List Kr) : Prop where
 row : ∀ z ∈ LA ++ LB, Row S e z
 pw : (LA ++ LB).Pairwise Ap
 len : LA.length + LB.length = S.length
 zero : ∀ z ∈ LB, ∀ j < p, gt z.2 j = 0
 le : LA.length ≤ p
 ord : LA.length = p → LA.map (·.1) = List.range p
theorem Tn.skip {S : Sq} {e p : Nat} {LA LB : List Kr} (h : Tn S e p LA LB) (hz : ∀ z ∈ LB, gt z.2 p = 0) : Tn S (2 * e + 1) (p + 1) LA LB := by
 refine ⟨fun z hz => (h.row z hz).mono (by omega), h.pw, h.len, fun z m j hj => ?_, by have := h.le; omega, fun e => by have := h.le; omega⟩
 by_cases c : j = p
 ·rw [c]
  exact hz z m
 ·exact h.zero z m j (by omega)
theorem Tn.step {S : Sq} {e p : Nat} {LA L1 L2 : List Kr} {b : Kr} (h : Tn S e p LA (L1 ++ b :: L2)) (hp : gt b.2 p ≠ 0) :
 Tn S (2 * e + 1) (p + 1) (LA.map (kclr b p) ++ [(p, b.2)]) ((L1 ++ L2).map (kclr b p)) := by
 have P1 : (LA ++ (L1 ++ b :: L2)).Perm (b :: (LA ++ (L1 ++ L2))) := by
  rw [← List.append_assoc, ← List.append_assoc]
  exact List.perm_middle
 have sy : ∀ {x y : Kr}, Ap x y → Ap y x := fun h => ⟨h.2, h.1⟩
 have pw1 := (P1.pairwise_iff sy).mp h.pw
 obtain ⟨pb, pr⟩ := List.pairwise_cons.mp pw1
 have rowb : Row S e b := h.row b (P1.symm.subset List.mem_cons_self)
 have rows : ∀ z ∈ LA ++ (L1 ++ L2), Row S e z := fun z hz => h.row z (P1.symm.subset (List.mem_cons_of_mem _ hz))
 have rowc : ∀ z ∈ LA ++ (L1 ++ L2), Row S (2 * e + 1) (kclr b p z) := fun z hz => (rows z hz).clr rowb hp (pb z hz).1
 have hlz : ∀ z ∈ LA ++ (L1 ++ L2), z.2.length = b.2.length := fun z hz => (rows z hz).len.trans rowb.len.symm
 have hgz : ∀ z ∈ LA ++ (L1 ++ L2), gL 0 (crude z.2 b.2 p) ≠ 0 := fun z hz => Qew (hlz z hz) (rows z hz).key hp (pb z hz).1
 have atp : ∀ z ∈ LA ++ (L1 ++ L2), gt (kclr b p z).2 p = 0 := fun z hz => by
  refine Qkm ?_ (hgz z hz)
  show gt (N45.clr z.2 b.2 p) p * _ = 0
  rw [Qd5 (hlz z hz) (hgz z hz), Int.mul_comm, Int.sub_self]
 have rowb' : Row S (2 * e + 1) (p, b.2) := by
  have := rowb.mono (show e ≤ 2 * e + 1 by omega)
  exact ⟨this.len, this.lin, this.one, this.bt, hp⟩
 have P2 : ((LA.map (kclr b p) ++ [(p, b.2)]) ++ (L1 ++ L2).map (kclr b p)).Perm ((p, b.2) :: (LA ++ (L1 ++ L2)).map (kclr b p)) := by
  rw [List.append_assoc, List.map_append (l₁ := LA)]
  exact List.perm_middle
 refine ⟨fun z hz => ?_, (P2.pairwise_iff sy).mpr ?_, ?_, fun z hz j hj => ?_, ?_, fun hl => ?_⟩
 ·rcases List.mem_cons.mp (P2.subset hz) with c | c
  ·rw [c]
   exact rowb'
  ·obtain ⟨y, hy, rfl⟩ := List.mem_map.mp c
   exact rowc y hy
 ·refine List.pairwise_cons.mpr ⟨fun z hz => ?_, ?_⟩
  ·obtain ⟨y, hy, rfl⟩ := List.mem_map.mp hz
   exact ⟨(pb y hy).1, atp y hy⟩
  ·rw [List.pairwise_map]
   refine List.Pairwise.imp_of_mem (fun {y z} hy hz hyz => ?_) pr
   refine ⟨Qkm ?_ (hgz y hy), Qkm ?_ (hgz z hz)⟩
   ·show gt (N45.clr y.2 b.2 p) z.1 * _ = 0
    rw [Qd5 (hlz y hy) (hgz y hy), hyz.1, (pb z hz).1, Int.zero_mul, Int.zero_mul, Int.sub_zero]
   ·show gt (N45.clr z.2 b.2 p) y.1 * _ = 0
    rw [Qd5 (hlz z hz) (hgz z hz), hyz.2, (pb y hy).1, Int.zero_mul, Int.zero_mul, Int.sub_zero]
 ·have := h.len
  simp only [List.length_append, List.length_map, List.length_cons, List.length_nil] at this ⊢
  omega
 ·obtain ⟨y, hy, rfl⟩ := List.mem_map.mp hz
  have hyr : y ∈ LA ++ (L1 ++ L2) := List.mem_append_right _ hy
  have hyB : y ∈ L1 ++ b :: L2 := by
   rcases List.mem_append.mp hy with c | c
   ·exact List.mem_append_left _ c
   ·exact List.mem_append_right _ (List.mem_cons_of_mem _ c)
  by_cases c : j = p
  ·rw [c]
   exact atp y hyr
  ·refine Qkm ?_ (hgz y hyr)
   show gt (N45.clr y.2 b.2 p) j * _ = 0
   rw [Qd5 (hlz y hyr) (hgz y hyr), h.zero y hyB j (by omega), h.zero b (List.mem_append_right _ List.mem_cons_self) j (by omega), Int.zero_mul, Int.zero_mul, Int.sub_zero]
 ·have := h.le
  simp only [List.length_append, List.length_map, List.length_cons, List.length_nil]
  omega
 ·have hl' : LA.length = p := by
   simp only [List.length_append, List.length_map, List.length_cons, List.length_nil] at hl
   omega
  rw [List.map_append, List.map_map, List.range_succ, ← h.ord hl']
  rfl
def fw (B : Sq) (p : Nat) : Option Nat := B.findIdx? fun r => decide (gt r p ≠ 0)
def cut (B : Sq) (i : Nat) : Sq := B.take i ++ B.drop (i + 1)
def stp (p : Nat) (AB : Sq × Sq) : Sq × Sq := match fw AB.2 p with
 | none => AB
 | some i => (AB.1.map (fun r => clr r (AB.2.getD i []) p) ++ [AB.2.getD i []], (cut AB.2 i).map fun r => clr r (AB.2.getD i []) p)
def trn (S : Sq) : Nat → Sq × Sq
 | 0 => ([], wid S)
 | p + 1 => stp p (trn S p)
def ex (E : Nat) : Nat → Nat
 | 0 => E
 | p + 1 => 2 * ex E p + 1
theorem Qnf (E : Nat) : ∀ {p q : Nat}, p ≤ q → ex E p ≤ ex E q := fun {p q} h => by
 induction h with
 | refl => exact Nat.le_refl _
 | step h ih =>
   show _ ≤ 2 * ex E _ + 1
   omega
structure Squ (S : Sq) (E : Nat) : Prop where
 len : ∀ r ∈ S, r.length = S.length
 bt : ∀ r ∈ S, ∀ x ∈ r, Bt E x
 e1 : 1 ≤ E
theorem sgetD {S : Sq} {k : Nat} (h : k < S.length) : S.getD k [] ∈ S := by
 rw [List.getD_eq_getElem?_getD, List.getElem?_eq_getElem h]
 exact List.getElem_mem h
theorem Ql8 {S : Sq} {E k : Nat} (h : Squ S E) (hk : k < S.length) : Row S E (S.length + k, S.getD k [] ++ uni S.length k 1) := by
 have hl := h.len _ (sgetD hk)
 have hu := Qhr S.length k 1
 have dr : (S.getD k [] ++ uni S.length k 1).drop S.length = uni S.length k 1 := by
  rw [List.drop_append_of_le_length (by omega), ← hl, List.drop_length, List.nil_append]
 have ky : gt (S.getD k [] ++ uni S.length k 1) (S.length + k) = 1 := by
  have := Qg6 (S.getD k []) (uni S.length k 1) k
  rw [hl] at this
  rw [this, Qgg _ _ _ _ hk, if_pos rfl]
 have len : (S.getD k [] ++ uni S.length k 1).length = 2 * S.length := by rw [List.length_append, hl, hu]; omega
 refine ⟨len, fun j hj => ?_, ?_, fun x hx => ?_, ?_⟩
 ·show gt (S.getD k [] ++ uni S.length k 1) j = mx S ((S.getD k [] ++ uni S.length k 1).drop S.length) j
  rw [dr, Qkx (by omega)]
  unfold mx
  rw [Qei (i := k) S.length (fun i hi hne => by rw [Qgg _ _ _ _ hi, if_neg hne, Int.zero_mul]), if_pos hk, Qgg _ _ _ _ hk, if_pos rfl, Int.one_mul]
 ·have d := (Qeg (S.getD k [] ++ uni S.length k 1) 0).2 _ (Qfh (j := S.length + k) (by omega))
  rw [ky] at d
  have n0 := Qkz (S.getD k [] ++ uni S.length k 1) 0 (Int.le_refl _)
  exact Int.eq_one_of_dvd_one n0 d
 ·rcases List.mem_append.mp hx with c | c
  ·exact h.bt _ (sgetD hk) x c
  ·unfold uni at c
   obtain ⟨i, _, rfl⟩ := List.mem_map.mp c
   have h2 : 2 ≤ 2 ^ E := by
    have := Nat.pow_le_pow_right (n := 2) (by decide) h.e1
    simpa using this
   show (if i = k then (1 : Int) else 0).natAbs < 2 ^ E
   split
   ·show 1 < 2 ^ E
    omega
   ·show 0 < 2 ^ E
    omega
 ·show gt (S.getD k [] ++ uni S.length k 1) (S.length + k) ≠ 0
  rw [ky]
  decide
theorem Qj4 {S : Sq} {E : Nat} (h : Squ S E) : ∃ LB : List Kr, wid S = LB.map (·.2) ∧ Tn S E 0 [] LB := by
 refine ⟨(List.range S.length).map fun k => (S.length + k, S.getD k [] ++ uni S.length k 1), by rw [List.map_map]; rfl, ?_⟩
 refine ⟨fun z hz => ?_, ?_, by simp, fun _ _ j hj => absurd hj (Nat.not_lt_zero _), Nat.le_refl _, fun _ => rfl⟩
 ·rw [List.nil_append] at hz
  obtain ⟨k, hk, rfl⟩ := List.mem_map.mp hz
  exact Ql8 h (List.mem_range.mp hk)
 ·rw [List.nil_append, List.pairwise_map]
  have at_ : ∀ i k, i < S.length → k < S.length → i ≠ k → gt (S.getD i [] ++ uni S.length i 1) (S.length + k) = 0 := fun i k hi hk hne => by
   have := Qg6 (S.getD i []) (uni S.length i 1) k
   rw [h.len _ (sgetD hi)] at this
   rw [this, Qgg _ _ _ _ hk, if_neg (Ne.symm hne)]
  refine List.Pairwise.imp_of_mem (fun {i k} hi hk hne => ?_) (List.nodup_range (n := S.length))
  exact ⟨at_ i k (List.mem_range.mp hi) (List.mem_range.mp hk) hne, at_ k i (List.mem_range.mp hk) (List.mem_range.mp hi) (Ne.symm hne)⟩
theorem Qnc {B : Sq} {p : Nat} (h : fw B p = none) : ∀ r ∈ B, gt r p = 0 := fun r hr => by
 have := (List.findIdx?_eq_none_iff.mp h) r hr
 simpa using this
theorem Qf7 {B : Sq} {p i : Nat} (h : fw B p = some i) : i < B.length ∧ gt (B.getD i []) p ≠ 0 := by
 obtain ⟨h1, h2, _⟩ := List.findIdx?_eq_some_iff_getElem.mp h
 refine ⟨h1, ?_⟩
 rw [List.getD_eq_getElem?_getD, List.getElem?_eq_getElem h1]
 simpa using h2
theorem Qgj {α : Type} {l : List α} {i : Nat} {x : α} (h : l[i]? = some x) : l = l.take i ++ x :: l.drop (i + 1) := by
 obtain ⟨hi, e⟩ := List.getElem?_eq_some_iff.mp h
 rw [← e, ← List.drop_eq_getElem_cons hi, List.take_append_drop]
theorem Qdv {S : Sq} {E : Nat} (h : Squ S E) : ∀ p, p ≤ S.length → ∃ LA LB : List Kr, trn S p = (LA.map (·.2), LB.map (·.2)) ∧ Tn S (ex E p) p LA LB
 | 0, _ => by
   obtain ⟨LB, e, t⟩ := Qj4 h
   exact ⟨[], LB, by show ([], wid S) = _; rw [e]; rfl, t⟩
 | p + 1, hp => by
   obtain ⟨LA, LB, e, t⟩ := Qdv h p (by omega)
   have es : trn S (p + 1) = stp p (LA.map (·.2), LB.map (·.2)) := by rw [← e]; rfl
   cases hf : fw (LB.map (·.2)) p with
   | none =>
     refine ⟨LA, LB, ?_, t.skip fun z hz => Qnc hf _ (List.mem_map.mpr ⟨z, hz, rfl⟩)⟩
     rw [es]
     unfold stp
     rw [hf]
   | some i =>
     obtain ⟨hi, hne⟩ := Qf7 hf
     rw [List.length_map] at hi
     have hb : LB[i]? = some LB[i] := List.getElem?_eq_getElem hi
     have hg : (LB.map (·.2)).getD i [] = LB[i].2 := by
      rw [List.getD_eq_getElem?_getD, List.getElem?_map, hb]
      rfl
     rw [hg] at hne
     have sp := Qgj hb
     refine ⟨LA.map (kclr LB[i] p) ++ [(p, LB[i].2)], (LB.take i ++ LB.drop (i + 1)).map (kclr LB[i] p), ?_, ?_⟩
     ·rw [es]
      unfold stp
      rw [hf]
      dsimp only
      rw [hg]
      refine Prod.ext ?_ ?_
      ·show List.map _ (LA.map (·.2)) ++ _ = List.map _ _
       rw [List.map_append, List.map_map, List.map_map]
       rfl
      ·show List.map _ (cut (LB.map (·.2)) i) = _
       unfold cut
       rw [← List.map_take, ← List.map_drop, ← List.map_append, List.map_map, List.map_map]
       rfl
     ·refine Tn.step (b := LB[i]) ?_ hne
      rw [← sp]
      exact t
theorem Qhy {S : Sq} {E p : Nat} (h : Squ S E) (hp : p ≤ S.length) : (trn S p).1.length + (trn S p).2.length = S.length ∧ (∀ r ∈ (trn S p).1 ++ (trn S p).2, r.length = 2 * S.length ∧ ∀ x ∈ r, Bt (ex E p) x) := by
 obtain ⟨LA, LB, e, t⟩ := Qdv h p hp
 rw [e]
 refine ⟨by rw [List.length_map, List.length_map]; exact t.len, fun r hr => ?_⟩
 rw [← List.map_append] at hr
 obtain ⟨z, hz, rfl⟩ := List.mem_map.mp hr
 exact ⟨(t.row z hz).len, (t.row z hz).bt⟩
theorem trn_ne {S : Sq} {E p i : Nat} (h : Squ S E) (hp : p ≤ S.length) (hf : fw (trn S p).2 p = some i) : ∀ r ∈ (trn S p).1 ++ cut (trn S p).2 i, gL 0 (crude r ((trn S p).2.getD i []) p) ≠ 0 := by
 obtain ⟨LA, LB, e, t⟩ := Qdv h p hp
 rw [e] at hf ⊢
 dsimp only at hf ⊢
 obtain ⟨hi, hne⟩ := Qf7 hf
 rw [List.length_map] at hi
 have hb : LB[i]? = some LB[i] := List.getElem?_eq_getElem hi
 have hg : (LB.map (·.2)).getD i [] = LB[i].2 := by
  rw [List.getD_eq_getElem?_getD, List.getElem?_map, hb]
  rfl
 rw [hg] at hne ⊢
 have P1 : (LA ++ LB).Perm (LB[i] :: (LA ++ (LB.take i ++ LB.drop (i + 1)))) := by
  conv => lhs; rw [Qgj hb]
  rw [← List.append_assoc, ← List.append_assoc]
  exact List.perm_middle
 have sy : ∀ {x y : Kr}, Ap x y → Ap y x := fun h => ⟨h.2, h.1⟩
 obtain ⟨pb, _⟩ := List.pairwise_cons.mp ((P1.pairwise_iff sy).mp t.pw)
 intro r hr
 unfold cut at hr
 rw [← List.map_take, ← List.map_drop, ← List.map_append, ← List.map_append] at hr
 obtain ⟨z, hz, rfl⟩ := List.mem_map.mp hr
 have rz := t.row z (P1.symm.subset (List.mem_cons_of_mem _ hz))
 have rb := t.row LB[i] (P1.symm.subset List.mem_cons_self)
 exact Qew (rz.len.trans rb.len.symm) rz.key hne (pb z hz).1
theorem Qhw {S : Sq} {E : Nat} (h : Squ S E) (hB : (trn S S.length).2 = []) : (trn S S.length).1.length = S.length ∧ ∀ k, k < S.length → ∀ r, (trn S S.length).1[k]? = some r →
 r.length = 2 * S.length ∧ gt r k ≠ 0 ∧ (∀ x ∈ r, Bt (ex E S.length) x) ∧ gL 0 r = 1 ∧ (∀ j < S.length, j ≠ k → gt r j = 0) ∧ ∀ j < S.length, gt r j = mx S (r.drop S.length) j := by
 obtain ⟨LA, LB, e, t⟩ := Qdv h S.length (Nat.le_refl _)
 rw [e] at hB ⊢
 dsimp only at hB ⊢
 have hLB : LB = [] := List.map_eq_nil_iff.mp hB
 subst hLB
 have hl : LA.length = S.length := by have := t.len; simpa using this
 have ho := t.ord hl
 refine ⟨by rw [List.length_map]; exact hl, fun k hk r hr => ?_⟩
 have hz : LA[k]? = some LA[k] := List.getElem?_eq_getElem (by omega)
 rw [List.getElem?_map, hz] at hr
 have hr : LA[k].2 = r := Option.some.inj hr
 subst hr
 have ky : ∀ j, (hj : j < S.length) → LA[j].1 = j := fun j hj => by
  have := congrArg (fun l => l[j]?) ho
  simp only [List.getElem?_map, List.getElem?_eq_getElem (show j < LA.length by omega), List.getElem?_range hj] at this
  exact Option.some.inj this
 have rz := t.row LA[k] (List.mem_append_left _ (List.getElem_mem _))
 have pw := t.pw
 rw [List.append_nil] at pw
 refine ⟨rz.len, (by have := rz.key; rw [ky k hk] at this; exact this), rz.bt, rz.one, fun j hj hne => ?_, rz.lin⟩
 rcases Nat.lt_or_gt_of_ne hne with c | c
 ·have := (List.pairwise_iff_getElem.mp pw j k (by omega) (by omega) c).2
  rw [ky j hj] at this
  exact this
 ·have := (List.pairwise_iff_getElem.mp pw k j (by omega) (by omega) c).1
  rw [ky j hj] at this
  exact this
theorem Qma {S : Sq} {E : Nat} (h : Squ S E) {r : List Int} {B : Sq} (hB : (trn S S.length).2 = r :: B) : r.length = 2 * S.length ∧ (∀ x ∈ r, Bt (ex E S.length) x) ∧ (∃ j, j < S.length ∧ gt (r.drop S.length) j ≠ 0) ∧ ∀ j < S.length, mx S (r.drop S.length) j = 0 := by
 obtain ⟨LA, LB, e, t⟩ := Qdv h S.length (Nat.le_refl _)
 rw [e] at hB
 cases LB with
 | nil => cases hB
 | cons z LB =>
   have hr : z.2 = r := (List.cons.inj hB).1
   subst hr
   have rz := t.row z (List.mem_append_right _ List.mem_cons_self)
   have z0 := t.zero z List.mem_cons_self
   refine ⟨rz.len, rz.bt, ⟨z.1 - S.length, ?_, ?_⟩, fun j hj => by rw [← rz.lin j hj]; exact z0 j hj⟩
   ·have := rz.key_lt
    have hm : ¬ z.1 < S.length := fun c => rz.key (z0 _ c)
    omega
   ·have hm : ¬ z.1 < S.length := fun c => rz.key (z0 _ c)
    rw [Qeu, show S.length + (z.1 - S.length) = z.1 by omega]
    exact rz.key
end N45
namespace N45
theorem Qk9 (f : Nat → Int) : ∀ n, ((List.range n).map f).sum = sm n f
 | 0 => rfl
 | n + 1 => by
   rw [List.range_succ, List.map_append, List.sum_append, Qk9 f n]
   show _ + (f n + 0) = _
   rw [Int.add_zero]
   rfl
theorem Qir (S : Sq) (s : Int) (r : List Int) (h : r.length = S.length) (j : Nat) : mx S (r.map fun x => s * x) j = s * mx S r j := by
 unfold mx
 rw [Int.mul_comm]
 symm
 refine Qgl _ _ _ _ fun k hk => ?_
 rw [Qg5 _ (by omega), Int.mul_comm (gt r k * _) s, Int.mul_assoc]
end N45
namespace N45
theorem Qft {f : Nat → Int} : ∀ n, (∀ k < n, f k = 0) → sm n f = 0
 | 0, _ => rfl
 | n + 1, h => by
   show sm n f + f n = 0
   rw [Qft n fun k hk => h k (by omega), h n (by omega)]
   rfl
theorem Qh3 (f g : Nat → Int) : ∀ n, sm n (fun k => f k + g k) = sm n f + sm n g
 | 0 => rfl
 | n + 1 => by
   show sm n (fun k => f k + g k) + (f n + g n) = (sm n f + f n) + (sm n g + g n)
   rw [Qh3 f g n]
   omega
theorem Qfv (a : Int) (f : Nat → Int) : ∀ n, sm n (fun k => a * f k) = a * sm n f
 | 0 => by simp [sm]
 | n + 1 => by
   show sm n (fun k => a * f k) + a * f n = a * (sm n f + f n)
   rw [Qfv a f n, Int.mul_add]
theorem Qfu (a : Nat → Nat → Int) (m : Nat) : ∀ n, sm n (fun j => sm m (fun k => a j k)) = sm m (fun k => sm n (fun j => a j k))
 | 0 => by
   show 0 = sm m fun k => 0
   rw [Qft m fun _ _ => rfl]
 | n + 1 => by
   show sm n (fun j => sm m (fun k => a j k)) + sm m (fun k => a n k) = sm m (fun k => sm n (fun j => a j k) + a n k)
   rw [Qh3, Qfu a m n]
theorem sm_nn {f : Nat → Int} : ∀ n, (∀ k < n, 0 ≤ f k) → 0 ≤ sm n f
 | 0, _ => Int.le_refl _
 | n + 1, h => by
   show 0 ≤ sm n f + f n
   have := sm_nn n fun k hk => h k (by omega)
   have := h n (by omega)
   omega
theorem Qj7 {f : Nat → Int} : ∀ n, (∀ k < n, f k ≤ 0) → sm n f ≤ 0
 | 0, _ => Int.le_refl _
 | n + 1, h => by
   show sm n f + f n ≤ 0
   have := Qj7 n fun k hk => h k (by omega)
   have := h n (by omega)
   omega
theorem Qla {f : Nat → Int} {i : Nat} : ∀ n, (∀ k < n, f k ≤ 0) → i < n → f i < 0 → sm n f < 0
 | 0, _, h, _ => absurd h (Nat.not_lt_zero _)
 | n + 1, h, hi, hf => by
   show sm n f + f n < 0
   by_cases c : i = n
   ·subst c
    have := Qj7 i fun k hk => h k (by omega)
    omega
   ·have := Qla n (fun k hk => h k (by omega)) (by omega) hf
    have := h n (by omega)
    omega
def sN (S : Sq) (N : Nat → Bool) (k : Nat) : Int := sm S.length fun j => if N j then gt (S.getD k []) j else 0
structure Mm (S : Sq) : Prop where
 off : ∀ k < S.length, ∀ j < S.length, k ≠ j → gt (S.getD k []) j ≤ 0
 nn : ∀ N : Nat → Bool, ∀ k < S.length, N k = true → 0 ≤ sN S N k
 pos : ∀ N : Nat → Bool, (∃ k, k < S.length ∧ N k = true) → ∃ k, k < S.length ∧ N k = true ∧ 0 < sN S N k
theorem NP {S : Sq} (h : Mm S) {x : List Int} (hx : ∀ j < S.length, 0 ≤ mx S x j) : ∀ j < S.length, 0 ≤ gt x j := by
 intro j0 hj0
 refine Classical.byContradiction fun hneg => ?_
 have hneg : gt x j0 < 0 := by omega
 let N : Nat → Bool := fun j => decide (gt x j < 0)
 have T1 : 0 ≤ sm S.length (fun j => if N j then mx S x j else 0) := sm_nn _ fun j hj => by
  split
  ·exact hx j hj
  ·exact Int.le_refl _
 have T2 : sm S.length (fun j => if N j then mx S x j else 0) = sm S.length (fun k => gt x k * sN S N k) := by
  have e1 : sm S.length (fun j => if N j then mx S x j else 0) = sm S.length (fun j => sm S.length (fun k => if N j then gt x k * gt (S.getD k []) j else 0)) := Qcn _ fun j _ => by
   by_cases c : N j = true
   ·simp only [c, if_true]
    rfl
   ·simp only [c]
    rw [Qft _ fun _ _ => by simp]
    simp
  rw [e1, Qfu]
  refine Qcn _ fun k _ => ?_
  unfold sN
  rw [← Qfv]
  refine Qcn _ fun j _ => ?_
  split
  ·rfl
  ·rw [Int.mul_zero]
 have term : ∀ k < S.length, gt x k * sN S N k ≤ 0 := fun k hk => by
  by_cases c : gt x k < 0
  ·have := h.nn N k hk (decide_eq_true c)
   exact Int.mul_nonpos_of_nonpos_of_nonneg (by omega) this
  ·refine Int.mul_nonpos_of_nonneg_of_nonpos (by omega) (Qj7 _ fun j hj => ?_)
   split
   ·rename_i hN
    have hjN : gt x j < 0 := of_decide_eq_true hN
    exact h.off k hk j hj (fun w => by rw [w] at c; exact c hjN)
   ·exact Int.le_refl _
 obtain ⟨k0, hk0, hN0, hp0⟩ := h.pos N ⟨j0, hj0, decide_eq_true hneg⟩
 have hx0 : gt x k0 < 0 := of_decide_eq_true hN0
 have := Qla S.length term hk0 (Int.mul_neg_of_neg_of_pos hx0 hp0)
 omega
theorem mx_neg (S : Sq) (x : List Int) (h : x.length = S.length) (j : Nat) : mx S (x.map fun v => -1 * v) j = -1 * mx S x j := Qir S (-1) x h j
theorem NS {S : Sq} (h : Mm S) {x : List Int} (hl : x.length = S.length) (hx : ∀ j < S.length, mx S x j = 0) : ∀ j < S.length, gt x j = 0 := fun j hj => by
 have h1 := NP h (x := x) (fun i hi => by rw [hx i hi]; exact Int.le_refl _) j hj
 have h2 := NP h (x := x.map fun v => -1 * v) (fun i hi => by rw [mx_neg S x hl, hx i hi]; decide) j hj
 rw [Qg5 _ (by omega)] at h2
 omega
theorem Qhx {S : Sq} {E : Nat} (hS : Squ S E) (h : Mm S) : (trn S S.length).2 = [] := by
 cases hB : (trn S S.length).2 with
 | nil => rfl
 | cons r B =>
   obtain ⟨h1, _, ⟨j, hj, hne⟩, h4⟩ := Qma hS hB
   exact absurd (NS h (x := r.drop S.length) (by rw [List.length_drop]; omega) h4 j hj) hne
structure Inv (S : Sq) (D : Int) (A : Nat → List Int) : Prop where
 pos : 0 < D
 len : ∀ j < S.length, (A j).length = S.length
 left : ∀ j < S.length, ∀ i < S.length, mx S (A j) i = if i = j then D else 0
theorem Inv.nn {S : Sq} {D : Int} {A : Nat → List Int} (I : Inv S D A) (h : Mm S) : ∀ j < S.length, ∀ k < S.length, 0 ≤ gt (A j) k := fun j hj => NP h fun i hi => by
 rw [I.left j hj i hi]
 have := I.pos
 split <;> omega
theorem Inv.right {S : Sq} {D : Int} {A : Nat → List Int} (I : Inv S D A) (h : Mm S) (k : Nat) (hk : k < S.length) (i : Nat) (hi : i < S.length) : sm S.length (fun j => gt (S.getD k []) j * gt (A j) i) = if i = k then D else 0 := by
 let v : List Int := (List.range S.length).map fun i => sm S.length (fun j => gt (S.getD k []) j * gt (A j) i) - if i = k then D else 0
 have vl : v.length = S.length := by simp [v]
 have va : ∀ i < S.length, gt v i = sm S.length (fun j => gt (S.getD k []) j * gt (A j) i) - if i = k then D else 0 := fun i hi => by
  show v.getD i 0 = _
  rw [List.getD_eq_getElem?_getD, List.getElem?_map, List.getElem?_range hi]
  rfl
 have hv : ∀ l < S.length, mx S v l = 0 := fun l hl => by
  have e1 : mx S v l = sm S.length (fun i => sm S.length (fun j => gt (S.getD k []) j * (gt (A j) i * gt (S.getD i []) l)) + (if i = k then -(D * gt (S.getD i []) l) else 0)) := by
   unfold mx
   refine Qcn _ fun i hi => ?_
   rw [va i hi, Int.sub_mul]
   have e2 : sm S.length (fun j => gt (S.getD k []) j * gt (A j) i) * gt (S.getD i []) l = sm S.length (fun j => gt (S.getD k []) j * (gt (A j) i * gt (S.getD i []) l)) := Qgl _ _ _ _ fun j _ => by rw [Int.mul_assoc]
   rw [e2]
   split
   ·omega
   ·rw [Int.zero_mul]
    omega
  rw [e1, Qh3, Qfu]
  have e3 : sm S.length (fun j => sm S.length (fun i => gt (S.getD k []) j * (gt (A j) i * gt (S.getD i []) l))) = D * gt (S.getD k []) l := by
   have e4 : ∀ j < S.length, sm S.length (fun i => gt (S.getD k []) j * (gt (A j) i * gt (S.getD i []) l)) = if j = l then gt (S.getD k []) j * D else 0 := fun j hj => by
    rw [Qfv]
    have := I.left j hj l hl
    unfold mx at this
    rw [this]
    by_cases c : l = j
    ·rw [if_pos c, if_pos c.symm]
    ·rw [if_neg c, if_neg (Ne.symm c), Int.mul_zero]
   rw [Qcn _ e4, Qei (i := l) _ fun j _ hne => if_neg hne, if_pos hl, if_pos rfl, Int.mul_comm]
  have e5 : sm S.length (fun i => if i = k then -(D * gt (S.getD i []) l) else 0) = -(D * gt (S.getD k []) l) := by
   rw [Qei (i := k) _ fun j _ hne => if_neg hne, if_pos hk, if_pos rfl]
  rw [e3, e5]
  omega
 have := NS h vl hv i hi
 rw [va i hi] at this
 omega
end N45
namespace K43
open PySem L2 L3
def top (i : Nat) : Stmt := PySem.Challenge.pw_groupbooks_k43_refused_tables.main.body.getD i (.Pass ⟨0, 0, 0, 0⟩)
abbrev sbl0 : Stmt := top 10
abbrev sas0 : Stmt := top 11
abbrev sbh0 : Stmt := top 12
abbrev sbo0 : Stmt := top 13
abbrev sbc0 : Stmt := top 14
abbrev sbe0 : Stmt := top 15
abbrev sbk0 : Stmt := top 16
abbrev sat0 : Stmt := top 17
abbrev saw0 : Stmt := top 19
abbrev saz0 : Stmt := top 20
abbrev sbg0 : Stmt := top 21
abbrev sbm0 : Stmt := top 23
abbrev sbf0 : Stmt := top 24
abbrev sbq0 : Stmt := top 25
abbrev sbd0 : Stmt := top 26
abbrev sav0 : Stmt := top 27
abbrev say0 : Stmt := top 28
abbrev sbp0 : Stmt := top 29
abbrev sbi0 : Stmt := top 30
abbrev sbj0 : Stmt := top 31
abbrev sau0 : Stmt := top 33
abbrev sbn0 : Stmt := top 34
abbrev sba0 : Stmt := top 35
abbrev sax0 : Stmt := top 36
abbrev sah0 : Stmt := top 38
abbrev sak0 : Stmt := top 40
abbrev sal0 : Stmt := top 41
abbrev san0 : Stmt := top 42
abbrev saq0 : Stmt := top 43
abbrev saj0 : Stmt := top 44
abbrev sae0 : Stmt := top 46
abbrev sar0 : Stmt := top 47
abbrev sap0 : Stmt := top 48
abbrev sai0 : Stmt := top 49
abbrev saf0 : Stmt := top 50
abbrev sao0 : Stmt := top 51
abbrev sag0 : Stmt := top 52
abbrev sam0 : Stmt := top 53
abbrev sbb0 : Stmt := top 54
section
variable {P : Program} {w : World} {K : Q4} {mg : Str → Option Value} {base : Heap} {cm : Bool}
def spCell (K : Q4) : Sp := fun vs H Q _ => ∃ (a : Addr) (ns : List Int) (k : Nat), vs = [.ref a, .int k] ∧ SqL K H a (ns.map V.int) ∧ Q (.int (ns.getD k 0)) H
def spLaw (K : Q4) : Sp := fun vs H Q _ => ∃ (a : Addr) (ns : List Int), vs = [.ref a] ∧ SqL K H a (ns.map V.int) ∧ ns.length ≤ 63 ∧ (∀ w ∈ ns, PySem.Builtin.Int.intBits w ≤ 2 ^ 20) ∧ ∀ H', Q (.bl true) H'
theorem Qae {H : Hp} {p : Addr} {o : HO} (h : H p = none) : Same H (upd H p o) := fun b o' hb => by
 rw [Qah (Qai hb h)]
 exact hb
theorem Qbb {H0 H : Hp} {p : Addr} {o : HO} (e : Same H0 H) (h : H0 p = none) : Same H0 (upd H p o) := fun b o' hb => by
 rw [Qah (Qai hb h)]
 exact e _ _ hb
theorem Qc3 {ws : List Int} {i : Nat} {x : V} (h : (ws.map V.int)[i]? = some x) : ∃ w, ws[i]? = some w ∧ x = .int w := by
 rw [List.getElem?_map] at h
 cases e : ws[i]? with
 | none => rw [e] at h; cases h
 | some z => rw [e] at h; exact ⟨z, rfl, (Option.some.inj h).symm⟩
theorem Qk2 (ws : List Int) (lo hi : Option Int) : ∃ us : List Int, cutV (ws.map V.int) lo hi = us.map V.int ∧ us.length ≤ ws.length ∧ ∀ w ∈ us, w ∈ ws := by
 refine ⟨(ws.drop (HT.sIx ws.length 0 lo)).take (HT.sIx ws.length ws.length hi - HT.sIx ws.length 0 lo), ?_, ?_, fun w hw => List.mem_of_mem_drop (List.mem_of_mem_take hw)⟩
 ·unfold cutV
  rw [List.length_map, ← List.map_drop, ← List.map_take]
 ·rw [List.length_take, List.length_drop]
  omega
def spMix : Sp := fun vs H Q _ => ∃ c b : Int, vs = [.int c, .int b] ∧ b.natAbs ≤ 2 ^ 62 ∧ ∀ m : Int, 0 ≤ m → m < 2 ^ 31 → Q (.int m) H
def L26 : Str := "abcdefghijklmnopqrstuvwxyz"
theorem Qlp {i : Int} (h0 : 0 ≤ i) (h1 : i < 26) : atI L26.cps.toList i = some (97 + i.toNat) := by
 obtain ⟨n, rfl⟩ := Int.eq_ofNat_of_zero_le h0
 have hn : n < 26 := by omega
 have all : ∀ n, n < 26 → L26.cps.toList[n]? = some (97 + n) := by decide+kernel
 exact Qce (all n hn)
theorem Qiz : L26.length ≤ sizeLine := by decide+kernel
theorem sq8 : ∀ i : Nat, i < 8 → 0 ≤ (0 + (i : Int)) * (0 + (i : Int)) ∧ (0 + (i : Int)) * (0 + (i : Int)) ≤ 49 := by decide
theorem Qbq {ws : List Str} {i : Nat} {x : V} (h : (ws.map V.str)[i]? = some x) : ∃ w, ws[i]? = some w ∧ x = .str w := by
 rw [List.getElem?_map] at h
 cases e : ws[i]? with
 | none => rw [e] at h; cases h
 | some z => rw [e] at h; exact ⟨z, rfl, (Option.some.inj h).symm⟩
theorem Qi8 {ws : List Int} {i : Int} (h0 : 0 ≤ i) (h1 : i < ws.length) : ∃ w ∈ ws, atI (ws.map V.int) i = some (.int w) := by
 obtain ⟨n, rfl⟩ := Int.eq_ofNat_of_zero_le h0
 have hn : n < ws.length := by omega
 exact ⟨ws[n], List.getElem_mem hn, Qce (by rw [List.getElem?_map, List.getElem?_eq_getElem hn]; rfl)⟩
theorem Qg8 (xs : List V) (t : Nat) : cutV xs (some (t : Int)) none = xs.drop (min t xs.length) := by
 unfold cutV
 rw [HT.sIx_nat, HT.sIx_none]
 exact List.take_of_length_le (by rw [List.length_drop]; omega)
theorem Qds (xs : List V) (t : Nat) : cutV xs none (some (t : Int)) = xs.take (min t xs.length) := by
 unfold cutV
 rw [HT.sIx_nat, HT.sIx_none]
 simp
theorem Qnt {a b : Int} {n : Nat} (h : a.natAbs ≤ b.natAbs) (hb : PySem.Builtin.Int.intBits b ≤ n) : PySem.Builtin.Int.intBits a ≤ n := PyProof.Rows.bits_of_natAbs_le h hb
theorem Qnu {m : Int} (h0 : 0 ≤ m) (h1 : m < 2 ^ 31) : PySem.Builtin.Int.intBits m ≤ 2 ^ 20 := Nat.le_trans (intBits_le_64 (by omega) (by omega)) (by decide)
theorem bt_min : bootBuiltins "min" = some (.builtin "min") := by decide+kernel
theorem Qhi {X : Cx} {scope : Scope} {cl : List (Str × Addr)} {C : Addr} {s2 : Shared} {H2 : Hp} {fp : List Addr} {N' : List Str} {xe : Q0} : OpR (X.inC scope cl C s2 H2 fp N' xe) (compareOp .In) (rIn X.K false) := Qfd (X := X.inC scope cl C s2 H2 fp N' xe)
theorem Qbv {X : Cx} {scope : Scope} {cl : List (Str × Addr)} {C : Addr} {s2 : Shared} {H2 : Hp} {fp : List Addr} {N' : List Str} {xe : Q0} : OpR (X.inC scope cl C s2 H2 fp N' xe) (compareOp .NotIn) (rIn X.K true) := Qbr (X := X.inC scope cl C s2 H2 fp N' xe)
def sg (c : Nat) : Str := ⟨#[c]⟩
theorem Qjy (x y : Str) : (x ++ y).cps.toList = x.cps.toList ++ y.cps.toList := by
 show (x.cps ++ y.cps).toList = _
 simp
theorem Qg2 : ∀ ls : List Nat, (Str.join "" (ls.map sg)).cps.toList = ls
 | [] => rfl
 | [x] => rfl
 | x :: y :: r => by
   show (sg x ++ "" ++ Str.join "" ((y :: r).map sg)).cps.toList = _
   rw [Qjy, Qjy, Qg2 (y :: r)]
   rfl
theorem Qhs (ls : List Nat) : (Txt.join "" (ls.map sg)).cps.toList = ls := by
 unfold Txt.join
 rw [StrLaws.glued_eq_join]
 exact Qg2 ls
theorem Qld {ls : List Nat} : ∀ z ∈ ls.map sg, z.length = 1 := fun z hz => by
 obtain ⟨c, _, rfl⟩ := List.mem_map.mp hz
 rfl
def atN (c : Int) : Nat := (c % 999983 / 24 % (1 + c % 999983 / 3 % 8)).toNat
def Dn (c : Int) (bs : List Int) (i : Nat) (x : Str) : Prop :=
 if c % 999983 % 3 = 1 then x.cps.toList.length = i + 1 else x.cps.toList[atN c]? = some (97 + ((bs.getD (atN c) 0 + (i : Int)) % 26).toNat)
theorem Ql1 {c : Int} {bs : List Int} {xs : List Str} {y : Str} (h : ∀ j x, xs[j]? = some x → Dn c bs j x) (hy : Dn c bs xs.length y) : ∀ j x, (xs ++ [y])[j]? = some x → Dn c bs j x := fun j x e => by
 rcases Nat.lt_trichotomy j xs.length with l | l | l
 ·rw [List.getElem?_append_left l] at e
  exact h j x e
 ·subst l
  rw [List.getElem?_append_right (Nat.le_refl _), Nat.sub_self] at e
  cases e
  exact hy
 ·rw [List.getElem?_eq_none (by rw [List.length_append]; show xs.length + 1 ≤ j; omega)] at e
  cases e
theorem Qk0 {c : Int} {bs : List Int} {xs : List Str} (hl : xs.length ≤ 8) (h : ∀ j x, xs[j]? = some x → Dn c bs j x) : xs.Nodup := by
 refine List.pairwise_iff_getElem.mpr fun i j hi hj hij e => ?_
 have a := h i xs[i] (List.getElem?_eq_getElem hi)
 have b := h j xs[j] (List.getElem?_eq_getElem hj)
 rw [← e] at b
 unfold Dn at a b
 split at a
 ·rename_i z
  rw [if_pos z] at b
  omega
 ·rename_i z
  rw [if_neg z] at b
  rw [a] at b
  have := Option.some.inj b
  omega
theorem Ql4 (ws : List Str) (t : Nat) (hn : ws.Nodup) : ∃ us : List Str, cutV (ws.map V.str) (some (t : Int)) none ++ cutV (ws.map V.str) none (some (t : Int)) = us.map V.str ∧ us.length = ws.length ∧ us.Nodup ∧ ∀ w, w ∈ us ↔ w ∈ ws := by
 refine ⟨ws.drop (min t ws.length) ++ ws.take (min t ws.length), ?_, ?_, ?_, fun w => ?_⟩
 ·rw [Qg8, Qds, List.length_map, List.map_append, List.map_drop, List.map_take]
 ·rw [List.length_append, List.length_drop, List.length_take]
  omega
 ·have p : (ws.drop (min t ws.length) ++ ws.take (min t ws.length)).Perm ws := by
   have := List.perm_append_comm (l₁ := ws.drop (min t ws.length)) (l₂ := ws.take (min t ws.length))
   rw [List.take_append_drop] at this
   exact this
  exact p.nodup_iff.mpr hn
 ·have p : (ws.drop (min t ws.length) ++ ws.take (min t ws.length)).Perm ws := by
   have := List.perm_append_comm (l₁ := ws.drop (min t ws.length)) (l₂ := ws.take (min t ws.length))
   rw [List.take_append_drop] at this
   exact this
  exact p.mem_iff
def spNd : Sp := fun vs H Q _ => ∃ (c : Int) (m : Nat), vs = [.int c, .int m] ∧ 1 ≤ m ∧ m ≤ 8 ∧ ∀ l (xs : List Str) H', Same H H' → H' l = some (.lst (xs.map V.str)) → xs.length = m → xs.Nodup → Q (.ref l) H'
theorem Qca {ws : List Str} {i : Int} (h0 : 0 ≤ i) (h1 : i < ws.length) : ∃ w ∈ ws, atI (ws.map V.str) i = some (.str w) := by
 obtain ⟨n, rfl⟩ := Int.eq_ofNat_of_zero_le h0
 have hn : n < ws.length := by omega
 exact ⟨ws[n], List.getElem_mem hn, Qce (by rw [List.getElem?_map, List.getElem?_eq_getElem hn]; rfl)⟩
theorem Qjw {ws : List Int} {n : Nat} (hn : n < ws.length) : atI (ws.map V.int) ((n : Nat) : Int) = some (.int (ws.getD n 0)) := Qce (by rw [List.getElem?_map, List.getElem?_eq_getElem hn]; simp [List.getD, hn])
abbrev Rw := Addr × Str × Str × Int
def tup3 (z : Rw) : HO := .tup [.str z.2.1, .str z.2.2.1, .int z.2.2.2]
def rfw (L : List Rw) : List V := L.map fun z => .ref z.1
theorem Qay (L : List Rw) : (rfw L).length = L.length := List.length_map ..
theorem Qem (A B : List Rw) : rfw (A ++ B) = rfw A ++ rfw B := List.map_append ..
theorem Qci {L : List Rw} {i : Nat} {x : V} (h : (rfw L)[i]? = some x) : ∃ z, L[i]? = some z ∧ x = .ref z.1 := by
 unfold rfw at h
 rw [List.getElem?_map] at h
 cases e : L[i]? with
 | none => rw [e] at h; cases h
 | some z => rw [e] at h; exact ⟨z, rfl, (Option.some.inj h).symm⟩
theorem Qlf (L : List Rw) : ∀ z ∈ rfw L, eqPl z = true := by
 intro z hz
 obtain ⟨y, _, rfl⟩ := List.mem_map.mp hz
 rfl
theorem Qel (L : List Rw) (k : Nat) (z : Rw) : (rfw L).take k ++ .ref z.1 :: (rfw L).drop k = rfw (L.take k ++ z :: L.drop k) := by
 unfold rfw
 rw [List.map_append, List.map_cons, List.map_take, List.map_drop]
theorem Qmc (ws : List Str) : ∀ z ∈ ws.map V.str, eqPl z = true := by
 intro z hz
 obtain ⟨y, _, rfl⟩ := List.mem_map.mp hz
 rfl
theorem Qby (c : Str) : ∀ ws : List Str, inV (.str c) (ws.map V.str) = decide (c ∈ ws)
 | [] => rfl
 | d :: ws => by
   have ih := Qby c ws
   unfold inV at ih ⊢
   rw [List.map_cons, List.any_cons, ih]
   show (eqV (.str d) (.str c) || decide (c ∈ ws)) = decide (c ∈ d :: ws)
   by_cases h : d = c
   ·subst h
    simp [eqV]
   ·simp [eqV, h, Ne.symm h]
theorem Qbf (ws : List Str) : (ws.map V.str).all flatV = true := by
 rw [List.all_eq_true]
 intro z hz
 obtain ⟨y, _, rfl⟩ := List.mem_map.mp hz
 rfl
theorem Qat {α : Type} {L : List α} {i : Nat} {z : α} (h : L[i]? = some z) : L.take (i + 1) = L.take i ++ [z] := by
 rw [List.take_succ, h]
 rfl
theorem Qa8 {H : Hp} {p : Addr} {xs ys : List V} {z : Addr} {o : List V} (h : H z = some (.tup o)) (hp : H p = some (.lst xs)) : upd H p (.lst ys) z = some (.tup o) := by
 rw [Qah (Qmv h hp (by intro z; cases z))]
 exact h
def RW (H : Hp) (fs es : List Str) (R : List Rw) : Prop := ∀ z ∈ R, H z.1 = some (tup3 z) ∧ z.2.1 ∈ es ∧ z.2.2.1 ∈ fs ∧ 1 ≤ z.2.2.2 ∧ z.2.2.2 ≤ 1000000
theorem RW.same {H H' : Hp} {fs es : List Str} {R : List Rw} (h : RW H fs es R) (e : Same H H') : RW H' fs es R := fun z hz => ⟨e _ _ (h z hz).1, (h z hz).2⟩
def hpB (h f : Str) (z : Rw) : Bool := decide (z.2.1 = h) && decide (z.2.2.1 = f)
def afB (f : Str) (z : Rw) : Bool := decide (z.2.2.1 = f)
def held (R : List Rw) (h f : Str) : Int := ((R.filter (hpB h f)).map (·.2.2.2)).sum
def alls (R : List Rw) (f : Str) : Int := ((R.filter (afB f)).map (·.2.2.2)).sum
def dueR (fs : List Str) (R : List Rw) (f : Str) : List Int := fs.map fun h => (if h = f then alls R f else 0) - held R h f
theorem Qd3 (z : Rw) (R : List Rw) (h f : Str) : held (z :: R) h f = (if z.2.1 = h then (if z.2.2.1 = f then z.2.2.2 else 0) else 0) + held R h f := by
 unfold held
 by_cases a : z.2.1 = h
 ·by_cases b : z.2.2.1 = f
  ·rw [List.filter_cons_of_pos (by simp [hpB, a, b]), List.map_cons, List.sum_cons, if_pos a, if_pos b]
  ·rw [List.filter_cons_of_neg (by simp [hpB, b]), if_pos a, if_neg b, Int.zero_add]
 ·rw [List.filter_cons_of_neg (by simp [hpB, a]), if_neg a, Int.zero_add]
theorem Qfs (z : Rw) (R : List Rw) (f : Str) : alls (z :: R) f = (if z.2.2.1 = f then z.2.2.2 else 0) + alls R f := by
 unfold alls
 by_cases b : z.2.2.1 = f
 ·rw [List.filter_cons_of_pos (by simp [afB, b]), List.map_cons, List.sum_cons, if_pos b]
 ·rw [List.filter_cons_of_neg (by simp [afB, b]), if_neg b, Int.zero_add]
theorem Qja {a : Str} (x : Int) : ∀ {ns : List Str}, a ∉ ns → (ns.map fun h => if a = h then x else 0).sum = 0
 | [], _ => rfl
 | n :: r, h => by
   rw [List.map_cons, List.sum_cons, if_neg (fun e => h (by rw [e]; exact List.mem_cons_self)), Qja x fun m => h (List.mem_cons_of_mem _ m)]
   rfl
theorem Qi9 {a : Str} (x : Int) : ∀ {ns : List Str}, ns.Nodup → a ∈ ns → (ns.map fun h => if a = h then x else 0).sum = x
 | [], _, h => nomatch h
 | n :: r, hn, h => by
   rw [List.map_cons, List.sum_cons]
   obtain ⟨h1, h2⟩ := List.nodup_cons.mp hn
   by_cases e : a = n
   ·subst e
    rw [if_pos rfl, Qja x h1, Int.add_zero]
   ·rw [if_neg e, Qi9 x h2 ((List.mem_cons.mp h).resolve_left e), Int.zero_add]
theorem Qh0 (f g : Str → Int) : ∀ ns : List Str, (ns.map fun h => f h + g h).sum = (ns.map f).sum + (ns.map g).sum
 | [] => rfl
 | n :: r => by
   simp only [List.map_cons, List.sum_cons]
   rw [Qh0 f g r]
   omega
theorem Qhz (f g : Str → Int) : ∀ ns : List Str, (ns.map fun h => f h - g h).sum = (ns.map f).sum - (ns.map g).sum
 | [] => rfl
 | n :: r => by
   simp only [List.map_cons, List.sum_cons]
   rw [Qhz f g r]
   omega
theorem Qeh : ∀ ns : List Str, (ns.map fun _ => (0 : Int)).sum = 0
 | [] => rfl
 | n :: r => by
   rw [List.map_cons, List.sum_cons, Qeh r]
   rfl
theorem Qnh {fs : List Str} {R : List Rw} {f : Str} {i : Nat} (hn : fs.Nodup) (hf : fs[i]? = some f) : (fs.map fun h => -held R h f).set i ((fs.map fun h => -held R h f).getD i 0 + alls R f) = dueR fs R f := by
 obtain ⟨hi, he⟩ := List.getElem?_eq_some_iff.mp hf
 unfold dueR
 refine List.ext_getElem (by simp) fun j h1 h2 => ?_
 rw [List.getElem_set]
 by_cases e : i = j
 ·subst e
  rw [if_pos rfl, List.getElem_map, he, if_pos rfl, List.getD, List.getElem?_map, hf]
  show -held R f f + alls R f = _
  omega
 ·rw [if_neg e, List.getElem_map, List.getElem_map]
  have hj : j < fs.length := by simpa using h2
  have ne : ¬ fs[j] = f := fun z => e ((List.getElem_inj hn).mp (he.trans z.symm))
  rw [if_neg ne]
  omega
def RX (H : Hp) (gs es : List Str) (R : List Rw) : Prop := ∀ z ∈ R, H z.1 = some (tup3 z) ∧ True
theorem RX.same {H H' : Hp} {gs es : List Str} {R : List Rw} (h : RX H gs es R) (e : Same H H') : RX H' gs es R := fun z hz => ⟨e _ _ (h z hz).1, trivial⟩
theorem RW.x {H : Hp} {fs es gs hs : List Str} {R : List Rw} (h : RW H fs es R) : RX H gs hs R := fun z hz => ⟨(h z hz).1, trivial⟩
def spHeld : Sp := fun vs H Q _ => ∃ (l : Addr) (R : List Rw) (h f : Str) (fs es : List Str), vs = [.ref l, .str h, .str f] ∧ H l = some (.lst (rfw R)) ∧ RX H fs es R ∧ R.length ≤ 100 ∧ ∀ H', Same H H' → Q (.int (held R h f)) H'
def spAll : Sp := fun vs H Q _ => ∃ (l : Addr) (R : List Rw) (f : Str) (fs es : List Str), vs = [.ref l, .str f] ∧ H l = some (.lst (rfw R)) ∧ RX H fs es R ∧ R.length ≤ 100 ∧ ∀ H', Same H H' → Q (.int (alls R f)) H'
def spShares : Sp := fun vs H Q _ => ∃ c : Int, vs = [.int c] ∧ PySem.Builtin.Int.intBits c ≤ 2 ^ 20 ∧ ∀ m : Int, 1 ≤ m → m ≤ 1000000 → Q (.int m) H
theorem Qmw {c : Int} (h : PySem.Builtin.Int.intBits c ≤ 2 ^ 20) : PySem.IntMulOk (c / 2) 7919 :=
 PySem.IntMulOk.of_le (m := 2 ^ 20) (n := 200) (Qnt (by omega) h) (by decide+kernel) (by decide)
structure Pp (H : Hp) (fl sl : Addr) (fs ss : List Str) : Prop where
 f : H fl = some (.lst (fs.map V.str))
 s : H sl = some (.lst (ss.map V.str))
 lf : 1 ≤ fs.length
 lf8 : fs.length ≤ 6
 ls : 1 ≤ ss.length
 ls8 : ss.length ≤ 3
 nd : (fs ++ ss).Nodup
 l8 : fs.length + ss.length ≤ 8
theorem Pp.same {H H' : Hp} {fl sl : Addr} {fs ss : List Str} (P : Pp H fl sl fs ss) (e : Same H H') : Pp H' fl sl fs ss := ⟨e _ _ P.f, e _ _ P.s, P.lf, P.lf8, P.ls, P.ls8, P.nd, P.l8⟩
def spPeople (K : Q4) : Sp := fun vs H Q _ => ∃ (a : Addr) (ns : List Int), vs = [.ref a] ∧ SqL K H a (ns.map V.int) ∧ ∀ (p fl sl : Addr) (fs ss : List Str) H', Same H H' → H' p = some (.tup [.ref fl, .ref sl]) → Pp H' fl sl fs ss → Q (.ref p) H'
def Rk (fs : List Str) (R : List Rw) : Prop := ∃ rank : Str → Nat, ∀ f ∈ fs, ∃ z ∈ R, z.2.2.1 = f ∧ (z.2.1 ∉ fs ∨ rank z.2.1 < rank f)
theorem Rk.sub {fs : List Str} {R R' : List Rw} (h : Rk fs R) (hs : ∀ z ∈ R, z ∈ R') : Rk fs R' := by
 obtain ⟨r, hr⟩ := h
 exact ⟨r, fun f hf => let ⟨z, hz, q⟩ := hr f hf; ⟨z, hs z hz, q⟩⟩
theorem rk_of {fs us : List Str} {R : List Rw} (hn : us.Nodup) (hm : ∀ f ∈ fs, f ∈ us) (h : ∀ j, j < us.length → ∀ f, us[j]? = some f → ∃ z ∈ R, z.2.2.1 = f ∧ (z.2.1 ∉ fs ∨ ∃ j2, j2 < j ∧ us[j2]? = some z.2.1)) : Rk fs R := by
 refine ⟨fun x => us.idxOf x, fun f hf => ?_⟩
 have hj := List.idxOf_lt_length_of_mem (hm f hf)
 have hg : us[us.idxOf f]? = some f := by
  rw [List.getElem?_eq_getElem hj, List.getElem_idxOf hj]
 obtain ⟨z, hz, q1, q2⟩ := h _ hj f hg
 refine ⟨z, hz, q1, q2.imp id fun ⟨j2, h2, h3⟩ => ?_⟩
 obtain ⟨hj2, e2⟩ := List.getElem?_eq_some_iff.mp h3
 have : us.idxOf z.2.1 = j2 := by
  rw [← e2]
  exact hn.idxOf_getElem j2 hj2
 show us.idxOf z.2.1 < us.idxOf f
 omega
theorem Qk8 {ws : List Str} {i : Int} (h0 : 0 ≤ i) (h1 : i < ws.length) : ∃ (w : Str) (j : Nat), ws[j]? = some w ∧ (j : Int) = i ∧ atI (ws.map V.str) i = some (.str w) := by
 obtain ⟨n, rfl⟩ := Int.eq_ofNat_of_zero_le h0
 have hn : n < ws.length := by omega
 exact ⟨ws[n], n, List.getElem?_eq_getElem hn, rfl, Qce (by rw [List.getElem?_map, List.getElem?_eq_getElem hn]; rfl)⟩
theorem Qm5 {α : Type} {R : List α} {k : Nat} {y z : α} (h : z ∈ R) : z ∈ R.take k ++ y :: R.drop k := by
 rw [← List.take_append_drop k R] at h
 rcases List.mem_append.mp h with c | c
 ·exact List.mem_append_left _ c
 ·exact List.mem_append_right _ (List.mem_cons_of_mem _ c)
def spGood (K : Q4) : Sp := fun vs H Q _ => ∃ (a fl sl : Addr) (ns : List Int) (fs ss : List Str), vs = [.ref a, .ref fl, .ref sl] ∧ SqL K H a (ns.map V.int) ∧ ns.length ≤ 63 ∧ (∀ w ∈ ns, PySem.Builtin.Int.intBits w ≤ 2 ^ 20) ∧ Pp H fl sl fs ss ∧
 ∀ (p : Addr) (R : List Rw) H', Same H H' → H p = none → H' p = some (.lst (rfw R)) → RW H' fs (fs ++ ss) R → Rk fs R → R.length ≤ 40 → Q (.ref p) H'
theorem scbl0 : FnScope ["rows", "holder", "firm"] ["rows", "holder", "firm"] (defScope sbl0) := fsc
theorem okbl0 (D : Def K mg "shares_of" sbl0 .none) (z_sum : mg "sum" = none) : Cal P w K mg base CX0 true 1 "shares_of" ["rows", "holder", "firm"] [] spHeld := by
 obtain ⟨f, fd, F, hm⟩ := D
 refine ⟨f, fd, _, F.ok scbl0 (fun vs H Q E h => ?_) (fun cdv A outer s H vs Q E hr h => ?_), hm, F.kp, (F.b3), .nil, F.b3⟩
 ·obtain ⟨l, R, h, f, fs, es, rfl, hl, hR, hlen, q⟩ := h
  rfl
 obtain ⟨l, R, h, f, fs, es, rfl, hl, hR, hlen, q⟩ := h
 have nd := scbl0.nd
 refine ⟨_, (Qag (Qaq (Qan (Qex hr) rfl z_sum Qju (Qaa (Qcz [1, 2] rfl (LcOk.free ["holder", "firm"] rfl rfl (List.forall_mem_cons.mpr ⟨rfl, (List.forall_mem_cons.mpr ⟨rfl, (fun _ h => nomatch h)⟩)⟩) (by decide+kernel) rfl (by decide+kernel) rfl (by decide+kernel) (show (["row", "holder", "firm"] : List Str).Nodup from by decide+kernel) (List.forall_mem_cons.mpr ⟨⟨_, rfl, rfl, rfl, by decide+kernel⟩, (List.forall_mem_cons.mpr ⟨⟨_, rfl, rfl, rfl, by decide+kernel⟩, (fun _ h => nomatch h)⟩)⟩)) (Qas (pv 0)) (fun C s2 H2 fp xe => (PW.pt (Qid (Qao Qb4 (Qax Qa7 (pv 0) Qaf (fun _ _ => rfl)) (pv 1) (nomark _)) (Qfz (Qao Qb4 (Qax Qa7 (pv 0) Qaf (fun _ _ => rfl)) (pv 2) (nomark _)))))) (fun C s2 H2 fp xe => (Qax Qa7 (pv 0) Qaf (fun _ _ => rfl)))) Qad)))), ?_⟩
 have hline : 10 ^ 6 ≤ sizeLine := by decide
 refine ⟨_, rfl, l, rfl, ⟨_, SqL.of hl⟩, ?_⟩
 refine Qbe (xs := rfw R) (fun j ys H5 => ys = (((R.take j).filter (hpB h f)).map (·.2.2.2)).map V.int ∧ H5 = H) ⟨rfl, rfl⟩ (by rw [Qay]; omega) ?_ ?_ ?_
 ·rintro j ys H5 hj ⟨rfl, rfl⟩
  refine ⟨SqL.of hl, ?_⟩
  rw [List.length_map, List.length_map]
  have h1 := List.length_filter_le (hpB h f) (R.take j)
  rw [List.length_take] at h1
  omega
 ·rintro j x ys H5 hx ⟨rfl, rfl⟩
  obtain ⟨y, hy, rfl⟩ := Qci hx
  have hTy := SqT.of (K := K) (hR y (List.mem_of_getElem? hy)).1
  refine ⟨_, rfl, .inr (.inl ⟨y.1, _, 0, _, rfl, rfl, hTy, rfl, _, rfl, rfl, _, rfl, ?_⟩)⟩
  refine dec2 (fun h1 => ?_) (fun h1 => ?_)
  ·refine ⟨_, rfl, .inr (.inl ⟨y.1, _, 1, _, rfl, rfl, hTy, rfl, _, rfl, rfl, _, rfl, ?_⟩)⟩
   refine dec2 (fun h2 => ?_) (fun h2 => ?_)
   ·refine ⟨_, rfl, .inr (.inl ⟨y.1, _, 2, _, rfl, rfl, hTy, rfl, ?_, rfl⟩)⟩
    rw [Qat hy, List.filter_append, List.filter_cons_of_pos (by simp [hpB, V.str.inj h1, V.str.inj h2]), List.map_append, List.map_append]
    rfl
   ·refine ⟨?_, rfl⟩
    have n : ¬ y.2.2.1 = f := fun z => h2 (congrArg V.str z)
    rw [Qat hy, List.filter_append, List.filter_cons_of_neg (by simp [hpB, n])]
    simp
  ·refine iteF ⟨?_, rfl⟩
   have n : ¬ y.2.1 = h := fun z => h1 (congrArg V.str z)
   rw [Qat hy, List.filter_append, List.filter_cons_of_neg (by simp [hpB, n])]
   simp
 rintro ys H5 ⟨rfl, rfl⟩ k1 hk1
 rw [Qay, List.take_length]
 exact ⟨k1, _, rfl, SqL.of Qab, q _ (Qae hk1)⟩
theorem scas0 : FnScope ["rows", "firm"] ["rows", "firm"] (defScope sas0) := fsc
theorem okas0 (D : Def K mg "all_shares" sas0 .none) (z_sum : mg "sum" = none) : Cal P w K mg base CX0 true 1 "all_shares" ["rows", "firm"] [] spAll := by
 obtain ⟨f, fd, F, hm⟩ := D
 refine ⟨f, fd, _, F.ok scas0 (fun vs H Q E h => ?_) (fun cdv A outer s H vs Q E hr h => ?_), hm, F.kp, (F.b2), .nil, F.b2⟩
 ·obtain ⟨l, R, f, fs, es, rfl, hl, hR, hlen, q⟩ := h
  rfl
 obtain ⟨l, R, f, fs, es, rfl, hl, hR, hlen, q⟩ := h
 have nd := scas0.nd
 refine ⟨_, (Qag (Qaq (Qan (Qex hr) rfl z_sum Qju (Qaa (Qcz [1] rfl (LcOk.free ["firm"] rfl rfl (List.forall_mem_cons.mpr ⟨rfl, (fun _ h => nomatch h)⟩) (by decide+kernel) rfl (by decide+kernel) rfl (by decide+kernel) (show (["row", "firm"] : List Str).Nodup from by decide+kernel) (List.forall_mem_cons.mpr ⟨⟨_, rfl, rfl, rfl, by decide+kernel⟩, (fun _ h => nomatch h)⟩)) (Qas (pv 0)) (fun C s2 H2 fp xe => (Qao Qb4 (Qax Qa7 (pv 0) Qaf (fun _ _ => rfl)) (pv 1) (nomark _))) (fun C s2 H2 fp xe => (Qax Qa7 (pv 0) Qaf (fun _ _ => rfl)))) Qad)))), ?_⟩
 have hline : 10 ^ 6 ≤ sizeLine := by decide
 refine ⟨_, rfl, l, rfl, ⟨_, SqL.of hl⟩, ?_⟩
 refine Qbe (xs := rfw R) (fun j ys H5 => ys = (((R.take j).filter (afB f)).map (·.2.2.2)).map V.int ∧ H5 = H) ⟨rfl, rfl⟩ (by rw [Qay]; omega) ?_ ?_ ?_
 ·rintro j ys H5 hj ⟨rfl, rfl⟩
  refine ⟨SqL.of hl, ?_⟩
  rw [List.length_map, List.length_map]
  have h1 := List.length_filter_le (afB f) (R.take j)
  rw [List.length_take] at h1
  omega
 ·rintro j x ys H5 hx ⟨rfl, rfl⟩
  obtain ⟨y, hy, rfl⟩ := Qci hx
  have hTy := SqT.of (K := K) (hR y (List.mem_of_getElem? hy)).1
  refine ⟨_, rfl, .inr (.inl ⟨y.1, _, 1, _, rfl, rfl, hTy, rfl, _, rfl, rfl, _, rfl, ?_⟩)⟩
  refine dec2 (fun h2 => ?_) (fun h2 => ?_)
  ·refine ⟨_, rfl, .inr (.inl ⟨y.1, _, 2, _, rfl, rfl, hTy, rfl, ?_, rfl⟩)⟩
   rw [Qat hy, List.filter_append, List.filter_cons_of_pos (by simp [afB, V.str.inj h2]), List.map_append, List.map_append]
   rfl
  ·refine ⟨?_, rfl⟩
   have n : ¬ y.2.2.1 = f := fun z => h2 (congrArg V.str z)
   rw [Qat hy, List.filter_append, List.filter_cons_of_neg (by simp [afB, n])]
   simp
 rintro ys H5 ⟨rfl, rfl⟩ k1 hk1
 rw [Qay, List.take_length]
 exact ⟨k1, _, rfl, SqL.of Qab, q _ (Qae hk1)⟩
def spOwn : Sp := fun vs H Q _ => ∃ (l : Addr) (R : List Rw) (f : Str) (fs es : List Str), vs = [.ref l, .str f] ∧ H l = some (.lst (rfw R)) ∧ RX H fs es R ∧ R.length ≤ 62 ∧
 ∀ (p : Addr) (zs : List Str) H', Same H H' → H p = none → H' p = some (.lst (zs.map V.str)) → (∀ x, x ∈ zs ↔ ∃ z ∈ R, z.2.2.1 = f ∧ z.2.1 = x) → zs.Pairwise (fun a b => ltS a b = true) → Q (.ref p) H'
def spStrg : Sp := fun vs H Q _ => ∃ (fl l : Addr) (gs : List Str) (R : List Rw) (fs es : List Str), vs = [.ref fl, .ref l] ∧ H fl = some (.lst (gs.map V.str)) ∧ H l = some (.lst (rfw R)) ∧ RX H fs es R ∧ R.length ≤ 62 ∧
 ∀ (p : Addr) (zs : List Str) H', Same H H' → H p = none → H' p = some (.lst (zs.map V.str)) → (∀ x, x ∈ zs ↔ x ∉ gs ∧ ∃ z ∈ R, z.2.1 = x) → zs.Pairwise (fun a b => ltS a b = true) → Q (.ref p) H'
theorem scbh0 : FnScope ["rows", "firm"] ["rows", "firm"] (defScope sbh0) := fsc
theorem okbh0 (D : Def K mg "owners_of" sbh0 .none) (z_sorted : mg "sorted" = none) (z_set : mg "set" = none) : Cal P w K mg base CX0 true 1 "owners_of" ["rows", "firm"] [] spOwn := by
 obtain ⟨f, fd, F, hm⟩ := D
 refine ⟨f, fd, _, F.ok scbh0 (fun vs H Q E h => ?_) (fun cdv A outer s H vs Q E hr h => ?_), hm, F.kp, (F.b2), .nil, F.b2⟩
 ·obtain ⟨l, R, f, fs, es, rfl, hl, hR, hlen, q⟩ := h
  rfl
 obtain ⟨l, R, f, fs, es, rfl, hl, hR, hlen, q⟩ := h
 have nd := scbh0.nd
 refine ⟨_, (Qag (Qaq (Qed rfl rfl z_sorted rfl z_set (Qaa (Qcz [1] rfl (LcOk.free ["firm"] rfl rfl (List.forall_mem_cons.mpr ⟨rfl, (fun _ h => nomatch h)⟩) (by decide+kernel) rfl (by decide+kernel) rfl (by decide+kernel) (show (["row", "firm"] : List Str).Nodup from by decide+kernel) (List.forall_mem_cons.mpr ⟨⟨_, rfl, rfl, rfl, by decide+kernel⟩, (fun _ h => nomatch h)⟩)) (Qas (pv 0)) (fun C s2 H2 fp xe => (Qao Qb4 (Qax Qa7 (pv 0) Qaf (fun _ _ => rfl)) (pv 1) (nomark _))) (fun C s2 H2 fp xe => (Qax Qa7 (pv 0) Qaf (fun _ _ => rfl)))) Qad)))), ?_⟩
 have hline : 10 ^ 6 ≤ sizeLine := by decide
 refine ⟨_, rfl, l, rfl, ⟨_, SqL.of hl⟩, ?_⟩
 refine Qbe (xs := rfw R) (fun j ys H5 => ys = (((R.take j).filter (afB f)).map (·.2.1)).map V.str ∧ H5 = H) ⟨rfl, rfl⟩ (by rw [Qay]; omega) ?_ ?_ ?_
 ·rintro j ys H5 hj ⟨rfl, rfl⟩
  refine ⟨SqL.of hl, ?_⟩
  rw [List.length_map, List.length_map]
  have h1 := List.length_filter_le (afB f) (R.take j)
  rw [List.length_take] at h1
  omega
 ·rintro j x ys H5 hx ⟨rfl, rfl⟩
  obtain ⟨y, hy, rfl⟩ := Qci hx
  have hTy := SqT.of (K := K) (hR y (List.mem_of_getElem? hy)).1
  refine ⟨_, rfl, .inr (.inl ⟨y.1, _, 1, _, rfl, rfl, hTy, rfl, _, rfl, rfl, _, rfl, ?_⟩)⟩
  refine dec2 (fun h2 => ?_) (fun h2 => ?_)
  ·refine ⟨_, rfl, .inr (.inl ⟨y.1, _, 0, _, rfl, rfl, hTy, rfl, ?_, rfl⟩)⟩
   rw [Qat hy, List.filter_append, List.filter_cons_of_pos (by simp [afB, V.str.inj h2]), List.map_append, List.map_append]
   rfl
  ·refine ⟨?_, rfl⟩
   have n : ¬ y.2.2.1 = f := fun z => h2 (congrArg V.str z)
   rw [Qat hy, List.filter_append, List.filter_cons_of_neg (by simp [afB, n])]
   simp
 rintro ys H5 ⟨rfl, rfl⟩ k1 hk1
 rw [Qay, List.take_length]
 have s1 := Qae (o := .lst (((R.filter (afB f)).map (·.2.1)).map V.str)) hk1
 refine ⟨k1, _, rfl, SqL.of Qab, ?_, fun p zs hp nd mm pw => ?_⟩
 ·rw [List.length_map]
  have h1 := List.length_filter_le (afB f) R
  omega
 refine q p zs _ (s1.trans (Qae hp)) (s1.free hp) Qab (fun x => ?_) pw
 rw [mm x, List.mem_map]
 constructor
 ·rintro ⟨z, hz, e⟩
  obtain ⟨h1, h2⟩ := List.mem_filter.mp hz
  exact ⟨z, h1, of_decide_eq_true h2, e⟩
 ·rintro ⟨z, h1, h2, e⟩
  exact ⟨z, List.mem_filter.mpr ⟨h1, decide_eq_true h2⟩, e⟩
theorem scbo0 : FnScope ["firms", "rows"] ["firms", "rows"] (defScope sbo0) := fsc
theorem okbo0 (D : Def K mg "strangers_of" sbo0 .none) (z_sorted : mg "sorted" = none) (z_set : mg "set" = none) : Cal P w K mg base CX0 true 1 "strangers_of" ["firms", "rows"] [] spStrg := by
 obtain ⟨f, fd, F, hm⟩ := D
 refine ⟨f, fd, _, F.ok scbo0 (fun vs H Q E h => ?_) (fun cdv A outer s H vs Q E hr h => ?_), hm, F.kp, (F.b2), .nil, F.b2⟩
 ·obtain ⟨fl, l, gs, R, fs, es, rfl, hfl, hl, hR, hlen, q⟩ := h
  rfl
 obtain ⟨fl, l, gs, R, fs, es, rfl, hfl, hl, hR, hlen, q⟩ := h
 have nd := scbo0.nd
 refine ⟨_, (Qag (Qaq (Qed rfl rfl z_sorted rfl z_set (Qaa (Qcz [0] rfl (LcOk.free ["firms"] rfl rfl (List.forall_mem_cons.mpr ⟨rfl, (fun _ h => nomatch h)⟩) (by decide+kernel) rfl (by decide+kernel) rfl (by decide+kernel) (show (["row", "firms"] : List Str).Nodup from by decide+kernel) (List.forall_mem_cons.mpr ⟨⟨_, rfl, rfl, rfl, by decide+kernel⟩, (fun _ h => nomatch h)⟩)) (Qas (pv 1)) (fun C s2 H2 fp xe => (Qao Qbv (Qax Qa7 (pv 0) Qaf (fun _ _ => rfl)) (pv 1) (by with_unfolding_all rfl))) (fun C s2 H2 fp xe => (Qax Qa7 (pv 0) Qaf (fun _ _ => rfl)))) Qad)))), ?_⟩
 have hline : 10 ^ 6 ≤ sizeLine := by decide
 refine ⟨_, rfl, l, rfl, ⟨_, SqL.of hl⟩, ?_⟩
 refine Qbe (xs := rfw R) (fun j ys H5 => ys = (((R.take j).filter (fun z => !decide (z.2.1 ∈ gs))).map (·.2.1)).map V.str ∧ H5 = H) ⟨rfl, rfl⟩ (by rw [Qay]; omega) ?_ ?_ ?_
 ·rintro j ys H5 hj ⟨rfl, rfl⟩
  refine ⟨SqL.of hl, ?_⟩
  rw [List.length_map, List.length_map]
  have h1 := List.length_filter_le (fun z => !decide (z.2.1 ∈ gs)) (R.take j)
  rw [List.length_take] at h1
  omega
 ·rintro j x ys H5 hx ⟨rfl, rfl⟩
  obtain ⟨y, hy, rfl⟩ := Qci hx
  have hTy := SqT.of (K := K) (hR y (List.mem_of_getElem? hy)).1
  refine ⟨_, rfl, .inr (.inl ⟨y.1, _, 0, _, rfl, rfl, hTy, rfl, _, rfl, fl, _, rfl, .inl (SqL.of hfl), rfl, Qbf _, _, rfl, ?_⟩)⟩
  rw [Qby]
  refine ndec2 (fun h2 => ?_) (fun h2 => ?_)
  ·refine ⟨_, rfl, .inr (.inl ⟨y.1, _, 0, _, rfl, rfl, hTy, rfl, ?_, rfl⟩)⟩
   rw [Qat hy, List.filter_append, List.filter_cons_of_pos (by simp [h2]), List.map_append, List.map_append]
   rfl
  ·refine ⟨?_, rfl⟩
   rw [Qat hy, List.filter_append, List.filter_cons_of_neg (by simp [h2])]
   simp
 rintro ys H5 ⟨rfl, rfl⟩ k1 hk1
 rw [Qay, List.take_length]
 have s1 := Qae (o := .lst (((R.filter (fun z => !decide (z.2.1 ∈ gs))).map (·.2.1)).map V.str)) hk1
 refine ⟨k1, _, rfl, SqL.of Qab, ?_, fun p zs hp nd mm pw => ?_⟩
 ·rw [List.length_map]
  have h1 := List.length_filter_le (fun z => !decide (z.2.1 ∈ gs)) R
  omega
 refine q p zs _ (s1.trans (Qae hp)) (s1.free hp) Qab (fun x => ?_) pw
 rw [mm x, List.mem_map]
 constructor
 ·rintro ⟨z, hz, e⟩
  obtain ⟨h1, h2⟩ := List.mem_filter.mp hz
  rw [← e]
  exact ⟨by simpa using h2, z, h1, rfl⟩
 ·rintro ⟨h2, z, h1, e⟩
  exact ⟨z, List.mem_filter.mpr ⟨h1, by rw [e]; simpa using h2⟩, e⟩
theorem scah0 : FnScope ["_law_script", "_law_k"] ["_law_script", "_law_k"] (defScope sah0) := fsc
theorem okah0 (D : Def K mg "_law_cell_at" sah0 .none) (z_len : mg "len" = none) : Cal P w K mg base CX0 cm 1 "_law_cell_at" ["_law_script", "_law_k"] [] (spCell K) := by
 obtain ⟨f, fd, F, hm⟩ := D
 refine ⟨f, fd, _, F.ok scah0 (fun vs H Q E h => ?_) (fun cdv A outer s H vs Q E hr h => ?_), hm, F.kp, (F.b2), .nil, F.b2⟩
 ·obtain ⟨a, ns, k, rfl, hS, q⟩ := h
  rfl
 obtain ⟨a, ns, k, rfl, hS, q⟩ := h
 have nd := scah0.nd
 refine ⟨_, (Qac (Qbo (Qao Qkj (pv 1) (Qan Qam rfl z_len Qbn (Qaa (pv 0) Qad)) (nomark _)) (Qag (Qaq (Qax Qav (pv 0) (pv 1) (fun _ _ => rfl)))) Qaw)
  (Qag (Qaq Qaf))), ?_⟩
 refine ⟨_, rfl, _, rfl, a, _, rfl, .inl hS, _, _, rfl, rfl, _, rfl, ?_⟩
 rw [List.length_map]
 refine dec2 (fun h => ?_) (fun h => ?_)
 ·refine ⟨_, rfl, _, rfl, .inl ⟨a, _, k, .int (ns.getD k 0), rfl, rfl, hS, Qce ?_, q⟩⟩
  have hk : k < ns.length := by omega
  rw [List.getElem?_map, List.getElem?_eq_getElem hk]
  simp [List.getD, hk]
 ·have hk : ns.length ≤ k := by omega
  have e : ns.getD k 0 = 0 := by simp [List.getD, hk]
  rw [e] at q
  exact q
theorem scak0 : FnScope ["_law_cell", "_law_by"] ["_law_cell", "_law_by"] (defScope sak0) := fsc
theorem okak0 (D : Def K mg "_law_mix" sak0 .none) : Cal P w K mg base CX0 cm 1 "_law_mix" ["_law_cell", "_law_by"] [] spMix := by
 obtain ⟨f, fd, F, hm⟩ := D
 refine ⟨f, fd, _, F.ok scak0 (fun vs H Q E h => ?_) (fun cdv A outer s H vs Q E hr h => ?_), hm, F.kp, (F.b2), .nil, F.b2⟩
 ·obtain ⟨c, b, rfl, hb, q⟩ := h
  rfl
 obtain ⟨c, b, rfl, hb, q⟩ := h
 have nd := scak0.nd
 refine ⟨_, (Qag (Qaq (Qal Qbw (Qal Qau (Qal Qaz (Qal Qa2 (Qal Qau (pv 0) Qaf) Qaf) (pv 1)) Qaf) Qaf))), ?_⟩
 exact ⟨_, rfl, _, _, rfl, rfl, (by show (0 : Int) < 2147483647; decide), _, _, rfl, rfl, _, rfl, _, _, rfl, rfl, Qb9 (by omega) (by omega) (by omega) (by omega), _, _, rfl, rfl, (by show (0 : Int) < 2147483399; decide), _, _, rfl, rfl, ⟨by decide, by decide⟩, q _ (by omega) (by omega)⟩
theorem scal0 : FnScope ["_law_cell", "_law_many", "_law_letters", "_law_seed", "_law_base", "_law_size", "_law_at", "_law_turn", "_law_names_here", "_law_k"] ["_law_cell", "_law_many"] (defScope sal0) := fsc
theorem okal0 (D : Def K mg "_law_names" sal0 .none) (z_range : mg "range" = none) (z_int : mg "int" = none) : Cal P w K mg base CX0 true 2 "_law_names" ["_law_cell", "_law_many"] [] spNd := by
 obtain ⟨f, fd, F, hm⟩ := D
 refine ⟨f, fd, _, F.ok scal0 (fun vs H Q E h => ?_) (fun cdv A outer s H vs Q E hr h => ?_), hm, F.kp, (F.b2), .nil, F.b2⟩
 ·obtain ⟨c, m, rfl, hm1, hm8, q⟩ := h
  rfl
 obtain ⟨c, m, rfl, hm1, hm8, q⟩ := h
 have nd := scal0.nd
 refine ⟨_, (Qac (Qaj (i := 2) nd rfl (Or.inr rfl) Qbd)
  (Qac (Qaj (i := 3) nd rfl (Or.inr rfl) (Qal Qau (pv 0) Qaf))
  (Qac (Qaj (i := 4) nd rfl (Or.inr rfl) (Qdl [3] rfl (LcOk.free ["_law_seed"] rfl rfl (List.forall_mem_cons.mpr ⟨rfl, (fun _ h => nomatch h)⟩) (by decide+kernel) rfl (by decide+kernel) rfl (by decide+kernel) (show (["_law_k", "_law_seed"] : List Str).Nodup from by decide+kernel) (List.forall_mem_cons.mpr ⟨⟨_, rfl, rfl, rfl, by decide+kernel⟩, (fun _ h => nomatch h)⟩)) (Qa1 rfl z_range (Qaa Qaf Qad)) (fun C s2 H2 fp xe => (Qal Qau (Qal Qau (Qal Qaz (pv 1) (Qal Qa2 (Qal Qaz (pv 0) (pv 0)) Qaf)) Qaf) Qaf))))
  (Qac (Qaj (i := 5) nd rfl (Or.inl rfl) (Qal Qa2 Qaf (Qal Qau (Qal Qbw (pv 3) Qaf) Qaf)))
  (Qac (Qaj (i := 6) nd rfl (Or.inr rfl) (Qal Qau (Qal Qbw (pv 3) Qaf) (pv 5)))
  (Qac (Qaj (i := 7) nd rfl (Or.inl rfl) (Qal Qau (Qal Qbw (pv 3) Qaf) (pv 1)))
  (Qac (Qaj (i := 8) nd rfl (Or.inl rfl) (Qba Qad))
  (Qac (Qbh PassesOwn.never rfl (Qa1 rfl z_range (Qaa (pv 1) Qad)) (Qar (i := 9) nd rfl (Or.inr rfl)) (Qag (Qbo (Qao Qb4 (Qal Qau (pv 3) Qaf) Qaf (nomark _)) (Qag (Qa9 (Qc0 PySem.F.plainAttrs_list PySem.F.slot_list_append PySem.F.type_list_append Qb5 (pv 8) (Qaa (Qc0 PySem.F.plainAttrs_str PySem.F.slot_str_join PySem.F.type_str_join Qit Qbd (Qaa (Qdl [2, 4] rfl (LcOk.free ["_law_letters", "_law_base"] rfl rfl (List.forall_mem_cons.mpr ⟨rfl, (List.forall_mem_cons.mpr ⟨rfl, (fun _ h => nomatch h)⟩)⟩) (by decide+kernel) rfl (by decide+kernel) rfl (by decide+kernel) (show (["_law_j", "_law_letters", "_law_base"] : List Str).Nodup from by decide+kernel) (List.forall_mem_cons.mpr ⟨⟨_, rfl, rfl, rfl, by decide+kernel⟩, (List.forall_mem_cons.mpr ⟨⟨_, rfl, rfl, rfl, by decide+kernel⟩, (fun _ h => nomatch h)⟩)⟩)) (Qa1 rfl z_range (Qaa (Qal Qa2 (pv 9) Qaf) Qad)) (fun C s2 H2 fp xe => (Qax Qa7 (pv 1) (Qax Qa7 (pv 2) (pv 0) (fun _ _ => rfl)) (fun _ _ => rfl)))) Qad)) Qad)))) (Qag (Qa9 (Qc0 PySem.F.plainAttrs_list PySem.F.slot_list_append PySem.F.type_list_append Qb5 (pv 8) (Qaa (Qc0 PySem.F.plainAttrs_str PySem.F.slot_str_join PySem.F.type_str_join Qit Qbd (Qaa (Qdl [2, 4, 9, 6] rfl (LcOk.free ["_law_letters", "_law_k", "_law_base", "_law_at"] rfl rfl (List.forall_mem_cons.mpr ⟨rfl, (List.forall_mem_cons.mpr ⟨rfl, (List.forall_mem_cons.mpr ⟨rfl, (List.forall_mem_cons.mpr ⟨rfl, (fun _ h => nomatch h)⟩)⟩)⟩)⟩) (by decide+kernel) rfl (by decide+kernel) rfl (by decide+kernel) (show (["_law_j", "_law_letters", "_law_base", "_law_k", "_law_at"] : List Str).Nodup from by decide+kernel) (List.forall_mem_cons.mpr ⟨⟨_, rfl, rfl, rfl, by decide+kernel⟩, (List.forall_mem_cons.mpr ⟨⟨_, rfl, rfl, rfl, by decide+kernel⟩, (List.forall_mem_cons.mpr ⟨⟨_, rfl, rfl, rfl, by decide+kernel⟩, (List.forall_mem_cons.mpr ⟨⟨_, rfl, rfl, rfl, by decide+kernel⟩, (fun _ h => nomatch h)⟩)⟩)⟩)⟩)) (Qa1 rfl z_range (Qaa (pv 5) Qad)) (fun C s2 H2 fp xe => (Qax Qa7 (pv 1) (Qal Qau (Qal Qa2 (Qax Qa7 (pv 2) (pv 0) (fun _ _ => rfl)) (Qal Qaz (pv 3) (Qbt Qjr rfl z_int bt_int (Qaa (Qbz Qb4 (pv 0) (pv 4) (nomark _)) Qad)))) Qaf) (fun _ _ => rfl)))) Qad)) Qad)))))))
  (Qag (Qaq (Qal Qdh (Qb1 Qcd (pv 8) (Qb7 (pv 7)) Qck) (Qb1 Qcd (pv 8) Qck (Qb7 (pv 7)))))))))))))), ?_⟩
 have hline : 600 ≤ sizeLine := by decide
 refine ⟨_, rfl, _, _, rfl, rfl, (by show (0 : Int) < 999983; decide), ?_⟩
 refine ⟨_, rfl, by decide, by decide, ?_⟩
 refine Qdr (fun i ys H1 => ∃ bs : List Int, ys = bs.map V.int ∧ bs.length = i ∧ (∀ b ∈ bs, 0 ≤ b ∧ b < 26) ∧ H1 = H) ⟨[], rfl, rfl, (fun b hb => nomatch hb), rfl⟩ (by show 8 ≤ sizeLine; decide) ?_ ?_ ?_
 ·rintro i ys H1 hi ⟨bs, rfl, hb, _, rfl⟩
  rw [List.length_map]
  exact hb
 ·rintro i ys H1 hi ⟨bs, rfl, hb, hbs, rfl⟩
  have hi8 : i < 8 := hi
  have sq := sq8 i hi8
  refine ⟨_, rfl, _, rfl, _, rfl, _, _, rfl, rfl, Qb9 (by omega) (by omega) (by omega) (by omega), _, _, rfl, rfl, _, _, rfl, rfl, Qb9 (by omega) (by omega) (by omega) (by omega), _, _, rfl, rfl, (by show (0 : Int) < 7919; decide), _, _, rfl, rfl, (by show (0 : Int) < 26; decide), bs ++ [_], by rw [List.map_append]; rfl, by rw [List.length_append, hb]; rfl, fun b hm => ?_, rfl⟩
  rcases List.mem_append.mp hm with w | w
  ·exact hbs b w
  ·rw [List.mem_singleton.mp w]
   omega
 rintro ys H0 ⟨bs, rfl, hbn, hbs, rfl⟩ bl hbl
 have hbn8 : bs.length = 8 := hbn
 have eb := Qae (o := .lst (bs.map V.int)) hbl
 have hat : atN c < 8 ∧ (atN c : Int) < (1 + c % 999983 / 3 % 8) := by
  unfold atN
  have a1 := Int.emod_nonneg (c % 999983 / 24) (show (1 + c % 999983 / 3 % 8) ≠ 0 by omega)
  have a2 := Int.emod_lt_of_pos (c % 999983 / 24) (show 0 < (1 + c % 999983 / 3 % 8) by omega)
  omega
 have hbb8 : ∀ j, j < 8 → 0 ≤ bs.getD j 0 ∧ bs.getD j 0 < 26 := fun j hj => by
  have : bs.getD j 0 = bs[j]'(by omega) := by simp [List.getD, show j < bs.length by omega]
  rw [this]
  exact hbs _ (List.getElem_mem _)
 refine ⟨_, rfl, _, _, rfl, rfl, ⟨by decide, by decide⟩, _, _, rfl, rfl, (by show (0 : Int) < 8; decide), _, _, rfl, rfl, ?_⟩
 refine ⟨_, rfl, _, _, rfl, rfl, ⟨by decide, by decide⟩, _, rfl, _, _, rfl, rfl, (by show (0 : Int) < (1 + c % 999983 / 3 % 8); omega), ?_⟩
 refine ⟨_, rfl, _, _, rfl, rfl, ⟨by decide, by decide⟩, _, rfl, _, _, rfl, rfl, (by show (0 : Int) < m; omega), ?_⟩
 refine ⟨(by show 0 ≤ sizeLine; decide), fun l hl => ?_⟩
 have nbl : bl ≠ l := Qai Qab hl
 have el := Qae (o := .lst []) hl
 have hlH := eb.free hl
 refine ⟨_, rfl, _, rfl, by omega, by omega, ?_⟩
 refine Qbk (fun i σ H' => ∃ (o : Option V) (xs : List Str), σ = [some (.int c), some (.int m), some (.str L26), some (.int (c % 999983)), some (.ref bl), some (.int (1 + c % 999983 / 3 % 8)), some (.int (c % 999983 / 24 % (1 + c % 999983 / 3 % 8))), some (.int (c % 999983 / 5 % m)), some (.ref l), o] ∧ Same H0 H' ∧ H' l = some (.lst (xs.map V.str)) ∧ xs.length = i ∧ H' bl = some (.lst (bs.map V.int)) ∧ ∀ j x, xs[j]? = some x → Dn c bs j x) ⟨_, [], rfl, eb.trans el, Qab, rfl, el _ _ Qab, fun j x h => by simp at h⟩ ?_ ?_
 ·rintro i σ H1 hi ⟨o, xs, rfl, eH, hll, hxl, hbb, hdn⟩
  have him : i < m := by omega
  refine ⟨_, rfl, _, _, rfl, rfl, (by show (0 : Int) < 3; decide), rfl, _, rfl, ?_⟩
  refine dec2 (fun h => ?_) (fun h => ?_)
  ·have h3 : c % 999983 % 3 = 1 := V.int.inj h
   refine ⟨_, rfl, .inl ⟨rfl, _, SqL.of hll⟩, rfl, _, rfl, _, _, rfl, rfl, _, rfl, by omega, by omega, ?_⟩
   refine Qdr (fun j ys H2 => ∃ ls : List Nat, ys = (ls.map sg).map V.str ∧ ls.length = j ∧ True ∧ H2 = H1) ⟨[], rfl, rfl, trivial, rfl⟩ (by omega) ?_ ?_ ?_
   ·rintro j ys H2 hj ⟨ls, rfl, hz, _, rfl⟩
    rw [List.length_map, List.length_map]
    exact hz
   ·rintro j ys H2 hj ⟨ls, rfl, hz, hv, rfl⟩
    obtain ⟨b, bm, hb⟩ := Qi8 (ws := bs) (i := 0 + (j : Int)) (by omega) (by omega)
    obtain ⟨b0, b1⟩ := hbs b bm
    refine ⟨_, rfl, _, rfl, _, rfl, .inl ⟨bl, _, _, _, rfl, rfl, SqL.of hbb, hb, .inr (.inr ⟨L26, _, _, rfl, rfl, Qiz, Qlp b0 b1, ?_⟩)⟩⟩
    exact ⟨ls ++ [97 + b.toNat], by rw [List.map_append, List.map_append]; rfl, by rw [List.length_append, hz]; rfl, trivial, rfl⟩
   ·rintro ys H2 ⟨ls, rfl, hz, hv, rfl⟩ l3 hl3
    have e3 := Qae (o := .lst ((ls.map sg).map V.str)) hl3
    refine ⟨"", l3, ls.map sg, rfl, rfl, SqL.of Qab, Qi3 (by rw [List.length_map]; omega) Qld, ?_⟩
    refine ⟨l, _, _, rfl, rfl, e3 _ _ hll, (by rw [List.length_map]; omega), ?_⟩
    refine ⟨_, xs ++ [Txt.join "" (ls.map sg)], rfl, Qbb (eH.trans e3) hlH, (by rw [Qab, List.map_append]; rfl), by rw [List.length_append, hxl]; rfl, ?_, Ql1 hdn ?_⟩
    ·rw [Qah nbl]
     exact e3 _ _ hbb
    ·unfold Dn
     rw [if_pos h3, Qhs, hz, hxl]
     omega
  ·have h3 : ¬ c % 999983 % 3 = 1 := fun z => h (congrArg V.int z)
   refine ⟨_, rfl, .inl ⟨rfl, _, SqL.of hll⟩, rfl, _, rfl, _, rfl, by omega, by omega, ?_⟩
   refine Qdr (fun j ys H2 => ∃ ls : List Nat, ys = (ls.map sg).map V.str ∧ ls.length = j ∧ (atN c < j → ls[atN c]? = some (97 + ((bs.getD (atN c) 0 + (i : Int)) % 26).toNat)) ∧ H2 = H1) ⟨[], rfl, rfl, (fun z => absurd z (Nat.not_lt_zero _)), rfl⟩ (by omega) ?_ ?_ ?_
   ·rintro j ys H2 hj ⟨ls, rfl, hz, _, rfl⟩
    rw [List.length_map, List.length_map]
    exact hz
   ·rintro j ys H2 hj ⟨ls, rfl, hz, hv, rfl⟩
    have hb := Qjw (ws := bs) (n := j) (by omega)
    rw [show ((j : Nat) : Int) = 0 + (j : Int) by omega] at hb
    generalize hbe : bs.getD j 0 = b at hb
    have m0 := Int.emod_nonneg (b + (0 + (i : Int)) * (if decide (V.int (0 + (j : Int)) = V.int (c % 999983 / 24 % (1 + c % 999983 / 3 % 8))) = true then 1 else 0)) (show (26 : Int) ≠ 0 by decide)
    have m1 := Int.emod_lt_of_pos (b + (0 + (i : Int)) * (if decide (V.int (0 + (j : Int)) = V.int (c % 999983 / 24 % (1 + c % 999983 / 3 % 8))) = true then 1 else 0)) (show (0 : Int) < 26 by decide)
    have mi : (if decide (V.int (0 + (j : Int)) = V.int (c % 999983 / 24 % (1 + c % 999983 / 3 % 8))) = true then (1 : Int) else 0) = 0 ∨ (if decide (V.int (0 + (j : Int)) = V.int (c % 999983 / 24 % (1 + c % 999983 / 3 % 8))) = true then (1 : Int) else 0) = 1 := by split <;> simp
    refine ⟨_, rfl, _, rfl, _, rfl, .inl ⟨bl, _, _, _, rfl, rfl, SqL.of hbb, hb, _, rfl, _, rfl, _, rfl, rfl, .inr ⟨_, rfl, _, _, rfl, rfl, Qb9 (by omega) (by omega) (by omega) (by omega), _, _, rfl, rfl, _, _, rfl, rfl, (by show (0 : Int) < 26; decide), .inr (.inr ⟨L26, _, _, rfl, rfl, Qiz, Qlp m0 m1, ?_⟩)⟩⟩⟩
    refine ⟨ls ++ [97 + ((b + (0 + (i : Int)) * (if decide (V.int (0 + (j : Int)) = V.int (c % 999983 / 24 % (1 + c % 999983 / 3 % 8))) = true then 1 else 0)) % 26).toNat], by rw [List.map_append, List.map_append]; rfl, by rw [List.length_append, hz]; rfl, fun ha => ?_, rfl⟩
    rcases Nat.lt_or_eq_of_le (Nat.le_of_lt_succ ha) with w | w
    ·rw [List.getElem?_append_left (by omega)]
     exact hv w
    ·rw [List.getElem?_append_right (by omega), w, hz, Nat.sub_self]
     have an := Int.emod_nonneg (c % 999983 / 24) (show (1 + c % 999983 / 3 % 8) ≠ 0 by omega)
     have hj1 : (V.int (0 + (j : Int)) = V.int (c % 999983 / 24 % (1 + c % 999983 / 3 % 8))) := congrArg V.int (by rw [← w]; unfold atN; omega)
     rw [if_pos (decide_eq_true hj1), hbe]
     show some (97 + ((b + (0 + (i : Int)) * 1) % 26).toNat) = _
     rw [show b + (0 + (i : Int)) * 1 = b + (i : Int) by omega]
   ·rintro ys H2 ⟨ls, rfl, hz, hv, rfl⟩ l3 hl3
    have e3 := Qae (o := .lst ((ls.map sg).map V.str)) hl3
    refine ⟨"", l3, ls.map sg, rfl, rfl, SqL.of Qab, Qi3 (by rw [List.length_map]; omega) Qld, ?_⟩
    refine ⟨l, _, _, rfl, rfl, e3 _ _ hll, (by rw [List.length_map]; omega), ?_⟩
    refine ⟨_, xs ++ [Txt.join "" (ls.map sg)], rfl, Qbb (eH.trans e3) hlH, (by rw [Qab, List.map_append]; rfl), by rw [List.length_append, hxl]; rfl, ?_, Ql1 hdn ?_⟩
    ·rw [Qah nbl]
     exact e3 _ _ hbb
    ·unfold Dn
     rw [if_neg h3, Qhs, hxl]
     exact hv (by omega)
 ·rintro σ H1 ⟨o, xs, rfl, eH, hll, hxl, hbb, hdn⟩
  have hxm : xs.length = m := by omega
  have hnd := Qk0 (by omega) hdn
  obtain ⟨t, ht⟩ : ∃ t : Nat, c % 999983 / 5 % (m : Int) = (t : Int) := Int.eq_ofNat_of_zero_le (Int.emod_nonneg _ (by omega))
  rw [ht]
  refine ⟨_, rfl, _, rfl, _, rfl, l, _, rfl, SqL.of hll, fun x1 hx1 => ?_⟩
  have s1 := Qae (o := .lst (cutV (xs.map V.str) (some (t : Int)) none)) hx1
  refine ⟨_, rfl, _, rfl, _, rfl, l, _, rfl, SqL.of (s1 _ _ hll), fun x2 hx2 => ?_⟩
  have s2 := Qae (o := .lst (cutV (xs.map V.str) none (some (t : Int)))) hx2
  obtain ⟨us, hu, lu, nu, _⟩ := Ql4 xs t hnd
  have hlu := congrArg List.length hu
  rw [List.length_append, List.length_map] at hlu
  refine ⟨x1, x2, _, _, rfl, rfl, s2 _ _ Qab, Qab, by omega, fun x3 hx3 => ?_⟩
  rw [hu]
  exact q x3 us _ (((eH.trans s1).trans s2).trans (Qae hx3)) Qab (lu.trans hxm) nu
theorem scan0 : FnScope ["_law_script", "_law_cell", "_law_names_here", "_law_many", "_law_some"] ["_law_script"] (defScope san0) := fsc
theorem okan0 (D : Def K mg "_law_people" san0 .none) (cah0 : Cal P w K mg base CX0 true 1 "_law_cell_at" ["_law_script", "_law_k"] [] (spCell K)) (cal0 : Cal P w K mg base CX0 true 2 "_law_names" ["_law_cell", "_law_many"] [] spNd) (cak0 : Cal P w K mg base CX0 true 1 "_law_mix" ["_law_cell", "_law_by"] [] spMix) (z_min : mg "min" = none) : Cal P w K mg base CX0 true 3 "_law_people" ["_law_script"] [] (spPeople K) := by
 obtain ⟨f, fd, F, hm⟩ := D
 obtain ⟨fah0, fdah0, dah0, Gah0, mah0, kah0, bah0, vah0, bah01⟩ := cah0
 obtain ⟨fal0, fdal0, dal0, Gal0, mal0, kal0, bal0, val0, bal01⟩ := cal0
 obtain ⟨fak0, fdak0, dak0, Gak0, mak0, kak0, bak0, vak0, bak01⟩ := cak0
 refine ⟨f, fd, _, F.ok scan0 (fun vs H Q E h => ?_) (fun cdv A outer s H vs Q E hr h => ?_), hm, F.kp, (F.b1), .nil, F.b1⟩
 ·obtain ⟨a, ns, rfl, hS, q⟩ := h
  rfl
 obtain ⟨a, ns, rfl, hS, q⟩ := h
 have nd := scan0.nd
 refine ⟨_, (Qac (Qaj (i := 1) nd rfl (Or.inl rfl) (Qak Gah0 (hr.mono (by decide)) rfl mah0 kah0 bah0 Paired.nil pass0 (Qaa (pv 0) (Qaa Qaf Qad))))
  (Qac (Qaj (i := 2) nd rfl (Or.inl rfl) (Qak Gal0 (hr.mono (by decide)) rfl mal0 kal0 bal0 Paired.nil pass0 (Qaa (pv 1) (Qaa Qaf Qad))))
  (Qac (Qaj (i := 3) nd rfl (Or.inl rfl) (Qal Qa2 Qaf (Qal Qau (Qak Gak0 (hr.mono (by decide)) rfl mak0 kak0 bak0 Paired.nil pass0 (Qaa (pv 1) (Qaa Qaf Qad))) Qaf)))
  (Qac (Qbo (Qao Qb4 (Qal Qau (Qak Gak0 (hr.mono (by decide)) rfl mak0 kak0 bak0 Paired.nil pass0 (Qaa (pv 1) (Qaa Qaf Qad))) Qaf) Qaf (nomark _)) (Qag (Qaj (i := 3) nd rfl (Or.inl rfl) Qaf)) Qaw)
  (Qac (Qaj (i := 4) nd rfl (Or.inl rfl) (Qal Qa2 Qaf (Qal Qau (Qak Gak0 (hr.mono (by decide)) rfl mak0 kak0 bak0 Paired.nil pass0 (Qaa (pv 1) (Qaa Qaf Qad))) (Qan (Qjq rfl) rfl z_min bt_min (Qaa Qaf (Qaa (Qal Qll Qaf (pv 3)) Qad))))))
  (Qag (Qaq (Qbp (Qaa (Qb1 Qcd (pv 2) Qck (Qb7 (pv 3))) (Qaa (Qb1 Qcd (pv 2) (Qb7 (pv 3)) (Qb7 (Qal Qa2 (pv 3) (pv 4)))) Qad)))))))))), ?_⟩
 have hline : 600 ≤ sizeLine := by decide
 refine ⟨_, rfl, a, ns, 0, rfl, hS, ?_⟩
 refine ⟨_, rfl, _, 8, rfl, by decide, by decide, fun l xs H1 e1 hl hx hnd => ?_⟩
 refine ⟨_, rfl, _, 40014, rfl, by decide, fun m1 a0 a1 => ⟨_, _, rfl, rfl, (by show (0 : Int) < 4; decide), _, _, rfl, rfl, ?_⟩⟩
 refine ⟨_, rfl, _, 69621, rfl, by decide, fun m2 b0 b1 => ⟨_, _, rfl, rfl, (by show (0 : Int) < 8; decide), rfl, _, rfl, ?_⟩⟩
 refine dec2 (fun h => ?_) (fun h => ?_)
 ·have hmn : (0 : Int) < (if (8 : Int) - 6 < 3 then (8 : Int) - 6 else 3) ∧ (if (8 : Int) - 6 < 3 then (8 : Int) - 6 else 3) ≤ 3 ∧ (if (8 : Int) - 6 < 3 then (8 : Int) - 6 else 3) ≤ 8 - 6 := by
   split <;> omega
  refine ⟨_, rfl, _, 39373, rfl, by decide, fun m3 p0 p1 => ⟨_, rfl, _, _, rfl, rfl, _, _, rfl, _, _, rfl, rfl, hmn.1, _, _, rfl, rfl, ?_⟩⟩
  have r0 := Int.emod_nonneg m3 (show (if (8 : Int) - 6 < 3 then (8 : Int) - 6 else 3) ≠ 0 by omega)
  have r1 := Int.emod_lt_of_pos m3 hmn.1
  refine ⟨_, rfl, _, rfl, _, rfl, l, _, rfl, SqL.of hl, fun x1 hx1 => ?_⟩
  obtain ⟨S, hSs⟩ : ∃ S : Nat, 1 + m3 % (if (8 : Int) - 6 < 3 then (8 : Int) - 6 else 3) = (S : Int) := Int.eq_ofNat_of_zero_le (by omega)
  obtain ⟨M, hM⟩ : ∃ M : Nat, 6 = (M : Int) := Int.eq_ofNat_of_zero_le (by omega)
  have hM8 : M + S ≤ 8 := by omega
  have s1 := Qae (o := .lst (cutV (xs.map V.str) none (some (6)))) hx1
  refine ⟨_, rfl, _, rfl, _, rfl, _, rfl, _, rfl, _, _, rfl, rfl, _, rfl, l, _, rfl, SqL.of (s1 _ _ hl), fun x2 hx2 => ?_⟩
  have s2 := Qae (o := .lst (cutV (xs.map V.str) (some (6)) (some (6 + (1 + m3 % (if (8 : Int) - 6 < 3 then (8 : Int) - 6 else 3)))))) hx2
  have c1 : cutV (xs.map V.str) none (some (6)) = (xs.take M).map V.str := by
   rw [hM, Qds, List.length_map, hx, Nat.min_eq_left (by omega), List.map_take]
  have c2 : cutV (xs.map V.str) (some (6)) (some (6 + (1 + m3 % (if (8 : Int) - 6 < 3 then (8 : Int) - 6 else 3)))) = ((xs.drop M).take S).map V.str := by
   rw [hSs, hM, show (M : Int) + (S : Int) = ((M + S : Nat) : Int) by omega]
   unfold cutV
   rw [HT.sIx_nat, HT.sIx_nat, List.length_map, hx, Nat.min_eq_left (by omega), Nat.min_eq_left (by omega), show M + S - M = S by omega, ← List.map_drop, ← List.map_take]
  refine ⟨(by show 2 ≤ sizeLine; decide), fun p hp => ?_⟩
  have s3 := Qae (o := .tup [.ref x1, .ref x2]) hp
  refine q p x1 x2 (xs.take M) ((xs.drop M).take S) _ (((e1.trans s1).trans s2).trans s3) Qab ⟨?_, ?_, ?_, ?_, ?_, ?_, ?_, (by rw [List.length_take, List.length_take, List.length_drop]; omega)⟩
  ·rw [← c1]
   exact s3 _ _ (s2 _ _ Qab)
  ·rw [← c2]
   exact s3 _ _ Qab
  ·rw [List.length_take]
   omega
  ·rw [List.length_take]
   omega
  ·rw [List.length_take, List.length_drop]
   omega
  ·rw [List.length_take, List.length_drop]
   omega
  ·have t : xs.take M ++ (xs.drop M).take S = xs.take (M + S) := by rw [List.take_add]
   rw [t]
   exact hnd.sublist (List.take_sublist _ _)
 have hmn : (0 : Int) < (if (8 : Int) - (1 + m1 % 4) < 3 then (8 : Int) - (1 + m1 % 4) else 3) ∧ (if (8 : Int) - (1 + m1 % 4) < 3 then (8 : Int) - (1 + m1 % 4) else 3) ≤ 3 ∧ (if (8 : Int) - (1 + m1 % 4) < 3 then (8 : Int) - (1 + m1 % 4) else 3) ≤ 8 - (1 + m1 % 4) := by
  split <;> omega
 refine ⟨_, rfl, _, 39373, rfl, by decide, fun m3 p0 p1 => ⟨_, rfl, _, _, rfl, rfl, _, _, rfl, _, _, rfl, rfl, hmn.1, _, _, rfl, rfl, ?_⟩⟩
 have r0 := Int.emod_nonneg m3 (show (if (8 : Int) - (1 + m1 % 4) < 3 then (8 : Int) - (1 + m1 % 4) else 3) ≠ 0 by omega)
 have r1 := Int.emod_lt_of_pos m3 hmn.1
 refine ⟨_, rfl, _, rfl, _, rfl, l, _, rfl, SqL.of hl, fun x1 hx1 => ?_⟩
 obtain ⟨S, hSs⟩ : ∃ S : Nat, 1 + m3 % (if (8 : Int) - (1 + m1 % 4) < 3 then (8 : Int) - (1 + m1 % 4) else 3) = (S : Int) := Int.eq_ofNat_of_zero_le (by omega)
 obtain ⟨M, hM⟩ : ∃ M : Nat, (1 + m1 % 4) = (M : Int) := Int.eq_ofNat_of_zero_le (by omega)
 have hM8 : M + S ≤ 8 := by omega
 have s1 := Qae (o := .lst (cutV (xs.map V.str) none (some ((1 + m1 % 4))))) hx1
 refine ⟨_, rfl, _, rfl, _, rfl, _, rfl, _, rfl, _, _, rfl, rfl, _, rfl, l, _, rfl, SqL.of (s1 _ _ hl), fun x2 hx2 => ?_⟩
 have s2 := Qae (o := .lst (cutV (xs.map V.str) (some ((1 + m1 % 4))) (some ((1 + m1 % 4) + (1 + m3 % (if (8 : Int) - (1 + m1 % 4) < 3 then (8 : Int) - (1 + m1 % 4) else 3)))))) hx2
 have c1 : cutV (xs.map V.str) none (some ((1 + m1 % 4))) = (xs.take M).map V.str := by
  rw [hM, Qds, List.length_map, hx, Nat.min_eq_left (by omega), List.map_take]
 have c2 : cutV (xs.map V.str) (some ((1 + m1 % 4))) (some ((1 + m1 % 4) + (1 + m3 % (if (8 : Int) - (1 + m1 % 4) < 3 then (8 : Int) - (1 + m1 % 4) else 3)))) = ((xs.drop M).take S).map V.str := by
  rw [hSs, hM, show (M : Int) + (S : Int) = ((M + S : Nat) : Int) by omega]
  unfold cutV
  rw [HT.sIx_nat, HT.sIx_nat, List.length_map, hx, Nat.min_eq_left (by omega), Nat.min_eq_left (by omega), show M + S - M = S by omega, ← List.map_drop, ← List.map_take]
 refine ⟨(by show 2 ≤ sizeLine; decide), fun p hp => ?_⟩
 have s3 := Qae (o := .tup [.ref x1, .ref x2]) hp
 refine q p x1 x2 (xs.take M) ((xs.drop M).take S) _ (((e1.trans s1).trans s2).trans s3) Qab ⟨?_, ?_, ?_, ?_, ?_, ?_, ?_, (by rw [List.length_take, List.length_take, List.length_drop]; omega)⟩
 ·rw [← c1]
  exact s3 _ _ (s2 _ _ Qab)
 ·rw [← c2]
  exact s3 _ _ Qab
 ·rw [List.length_take]
  omega
 ·rw [List.length_take]
  omega
 ·rw [List.length_take, List.length_drop]
  omega
 ·rw [List.length_take, List.length_drop]
  omega
 ·have t : xs.take M ++ (xs.drop M).take S = xs.take (M + S) := by rw [List.take_add]
  rw [t]
  exact hnd.sublist (List.take_sublist _ _)
theorem scaq0 : FnScope ["_law_cell"] ["_law_cell"] (defScope saq0) := fsc
theorem okaq0 (D : Def K mg "_law_shares" saq0 .none) : Cal P w K mg base CX0 cm 1 "_law_shares" ["_law_cell"] [] spShares := by
 obtain ⟨f, fd, F, hm⟩ := D
 refine ⟨f, fd, _, F.ok scaq0 (fun vs H Q E h => ?_) (fun cdv A outer s H vs Q E hr h => ?_), hm, F.kp, (F.b1), .nil, F.b1⟩
 ·obtain ⟨c, rfl, hb, q⟩ := h
  rfl
 obtain ⟨c, rfl, hb, q⟩ := h
 have nd := scaq0.nd
 refine ⟨_, (Qac (Qbo (Qao Qb4 (Qal Qau (pv 0) Qaf) Qaf (nomark _)) (Qag (Qaq (Qal Qa2 (Qal Qau (Qal Qbw (pv 0) Qaf) Qaf) Qaf))) Qaw)
  (Qag (Qaq (Qal Qa2 (Qal Qau (Qal Qaz (Qal Qbw (pv 0) Qaf) Qaf) (Qal op_pow Qaf Qaf)) Qaf)))), ?_⟩
 refine ⟨_, rfl, _, _, rfl, rfl, (by show (0 : Int) < 2; decide), rfl, _, rfl, ?_⟩
 refine dec2 (fun h => ⟨_, rfl, _, _, rfl, rfl, ⟨by decide, by decide⟩, _, _, rfl, rfl, (by show (0 : Int) < 9; decide), _, _, rfl, rfl, q _ (by omega) (by first | omega | (have e : (10 : Int) ^ (6 : Int).toNat = 1000000 := rfl; omega))⟩) (fun h => ?_)
 exact ⟨_, rfl, _, _, rfl, rfl, ⟨by decide, by decide⟩, _, _, rfl, rfl, Qmw hb, _, _, rfl, rfl, ⟨by decide, by decide, by decide⟩, _, _, rfl, rfl, (by show (0 : Int) < 10 ^ 6; decide), _, _, rfl, rfl, q _ (by omega) (by first | omega | (have e : (10 : Int) ^ (6 : Int).toNat = 1000000 := rfl; omega))⟩
theorem join1 {α : Type} {G : Prop} (F P : α → Prop) (hm : (∀ x, F x → P x) → G) (hr : ∀ x, F x → P x) : G := hm hr
theorem scaj0 : FnScope ["_law_script", "_law_firms", "_law_strangers", "_law_cell", "_law_turn", "_law_order", "_law_rows", "_law_k", "_law_cells", "_law_everyone", "_law_pick", "_law_holder", "_law_firm", "_law_at"] ["_law_script", "_law_firms", "_law_strangers"] (defScope saj0) := fsc
theorem okaj0 (D : Def K mg "_law_good" saj0 .none) (cah0 : Cal P w K mg base CX0 true 1 "_law_cell_at" ["_law_script", "_law_k"] [] (spCell K)) (cak0 : Cal P w K mg base CX0 true 1 "_law_mix" ["_law_cell", "_law_by"] [] spMix) (caq0 : Cal P w K mg base CX0 true 1 "_law_shares" ["_law_cell"] [] spShares) (z_len : mg "len" = none) (z_range : mg "range" = none) : Cal P w K mg base CX0 true 3 "_law_good" ["_law_script", "_law_firms", "_law_strangers"] [] (spGood K) := by
 obtain ⟨f, fd, F, hm⟩ := D
 obtain ⟨fah0, fdah0, dah0, Gah0, mah0, kah0, bah0, vah0, bah01⟩ := cah0
 obtain ⟨fak0, fdak0, dak0, Gak0, mak0, kak0, bak0, vak0, bak01⟩ := cak0
 obtain ⟨faq0, fdaq0, daq0, Gaq0, maq0, kaq0, baq0, vaq0, baq01⟩ := caq0
 refine ⟨f, fd, _, F.ok scaj0 (fun vs H Q E h => ?_) (fun cdv A outer s H vs Q E hr h => ?_), hm, F.kp, (F.b3), .nil, F.b3⟩
 ·obtain ⟨a, fl, sl, ns, fs, ss, rfl, hS, hlen, hb, P, q⟩ := h
  rfl
 obtain ⟨a, fl, sl, ns, fs, ss, rfl, hS, hlen, hb, P, q⟩ := h
 have nd := scaj0.nd
 refine ⟨_, (Qac (Qaj (i := 3) nd rfl (Or.inl rfl) (Qak Gah0 (hr.mono (by decide)) rfl mah0 kah0 bah0 Paired.nil pass0 (Qaa (pv 0) (Qaa Qaf Qad))))
  (Qac (Qaj (i := 4) nd rfl (Or.inl rfl) (Qal Qau (Qak Gak0 (hr.mono (by decide)) rfl mak0 kak0 bak0 Paired.nil pass0 (Qaa (pv 3) (Qaa Qaf Qad))) (Qan Qam rfl z_len Qbn (Qaa (pv 1) Qad))))
  (Qac (Qaj (i := 5) nd rfl (Or.inl rfl) (Qal Qdh (Qb1 Qcd (pv 1) (Qb7 (pv 4)) Qck) (Qb1 Qcd (pv 1) Qck (Qb7 (pv 4)))))
  (Qac (Qaj (i := 6) nd rfl (Or.inl rfl) (Qba Qad))
  (Qac (Qbh PassesOwn.never rfl (Qa1 rfl z_range (Qaa (Qan Qam rfl z_len Qbn (Qaa (pv 5) Qad)) Qad)) (Qar (i := 7) nd rfl (Or.inl rfl)) (Qac (Qaj (i := 10) nd rfl (Or.inl rfl) (Qak Gak0 (hr.mono (by decide)) rfl mak0 kak0 bak0 Paired.nil pass0 (Qaa (pv 3) (Qaa (Qal Qa2 Qaf (Qal Qaz Qaf (pv 7))) Qad))))
  (Qac (Qaj (i := 11) nd rfl (Or.inl rfl) (Qax Qav (pv 2) (Qal Qau (pv 10) (Qan Qam rfl z_len Qbn (Qaa (pv 2) Qad))) (fun _ _ => rfl)))
  (Qac (Qbo (PW.pt (Qid (Qao op_gt (pv 7) Qaf (nomark _)) (Qfz (Qao Qik (Qal Qau (Qal Qbw (pv 10) Qaf) Qaf) Qaf (nomark _))))) (Qag (Qaj (i := 11) nd rfl (Or.inl rfl) (Qax Qav (pv 5) (Qal Qau (Qal Qbw (pv 10) Qaf) (pv 7)) (fun _ _ => rfl)))) Qaw)
  (Qag (Qa9 (Qc0 PySem.F.plainAttrs_list PySem.F.slot_list_append PySem.F.type_list_append Qb5 (pv 6) (Qaa (Qbp (Qaa (pv 11) (Qaa (Qax Qav (pv 5) (pv 7) (fun _ _ => rfl)) (Qaa (Qak Gaq0 (hr.mono (by decide)) rfl maq0 kaq0 baq0 Paired.nil pass0 (Qaa (Qak Gak0 (hr.mono (by decide)) rfl mak0 kak0 bak0 Paired.nil pass0 (Qaa (pv 3) (Qaa (Qal Qa2 Qaf (Qal Qaz Qaf (pv 7))) Qad))) Qad)) Qad)))) Qad))))))))
  (Qac (Qaj (i := 8) nd rfl (Or.inl rfl) (Qb1 Qcd (pv 0) (Qb7 Qaf) (Qb7 Qaf)))
  (Qac (Qaj (i := 9) nd rfl (Or.inl rfl) (Qal Qdh (pv 1) (pv 2)))
  (Qac (Qbh PassesOwn.never rfl (Qa1 rfl z_range (Qaa (Qal Qbw (Qan Qam rfl z_len Qbn (Qaa (pv 8) Qad)) Qaf) Qad)) (Qar (i := 7) nd rfl (Or.inl rfl)) (Qac (Qaj (i := 10) nd rfl (Or.inl rfl) (Qax Qav (pv 8) (Qal Qaz Qaf (pv 7)) (fun _ _ => rfl)))
  (Qac (Qaj (i := 11) nd rfl (Or.inl rfl) (Qax Qav (pv 9) (Qal Qau (Qak Gak0 (hr.mono (by decide)) rfl mak0 kak0 bak0 Paired.nil pass0 (Qaa (pv 10) (Qaa Qaf Qad))) (Qan Qam rfl z_len Qbn (Qaa (pv 9) Qad))) (fun _ _ => rfl)))
  (Qac (Qaj (i := 12) nd rfl (Or.inl rfl) (Qax Qav (pv 1) (Qal Qau (Qak Gak0 (hr.mono (by decide)) rfl mak0 kak0 bak0 Paired.nil pass0 (Qaa (pv 10) (Qaa Qaf Qad))) (Qan Qam rfl z_len Qbn (Qaa (pv 1) Qad))) (fun _ _ => rfl)))
  (Qac (Qaj (i := 13) nd rfl (Or.inl rfl) (Qal Qau (Qak Gak0 (hr.mono (by decide)) rfl mak0 kak0 bak0 Paired.nil pass0 (Qaa (pv 10) (Qaa Qaf Qad))) (Qal Qa2 (Qan Qam rfl z_len Qbn (Qaa (pv 6) Qad)) Qaf)))
  (Qag (Qa9 (Qc0 PySem.F.plainAttrs_list PySem.F.slot_list_insert PySem.F.type_list_insert Qc6 (pv 6) (Qaa (pv 13) (Qaa (Qbp (Qaa (pv 11) (Qaa (pv 12) (Qaa (Qak Gaq0 (hr.mono (by decide)) rfl maq0 kaq0 baq0 Paired.nil pass0 (Qaa (Qax Qav (pv 8) (Qal Qa2 (Qal Qaz Qaf (pv 7)) Qaf) (fun _ _ => rfl)) Qad)) Qad)))) Qad))))))))))
  (Qag (Qaq (pv 6))))))))))), ?_⟩
 have hline : 10 ^ 6 ≤ sizeLine := by decide
 have lf := P.lf
 have lf8 := P.lf8
 have ls := P.ls
 have ls8 := P.ls8
 have lfm : (fs.map V.str).length = fs.length := List.length_map ..
 have lsm : (ss.map V.str).length = ss.length := List.length_map ..
 have hfn := (List.nodup_append.mp P.nd).1
 refine ⟨_, rfl, a, ns, 1, rfl, hS, ?_⟩
 refine ⟨_, rfl, _, 48271, rfl, by decide, fun m m0 m1 => ⟨_, rfl, fl, _, rfl, .inl (SqL.of P.f), _, _, rfl, rfl, (by show (0 : Int) < ((fs.map V.str).length : Int); omega), ?_⟩⟩
 refine ⟨_, rfl, _, rfl, _, rfl, fl, _, rfl, SqL.of P.f, fun x1 hx1 => ?_⟩
 have s1 := Qae (o := .lst (cutV (fs.map V.str) (some (m % ((fs.map V.str).length : Int))) none)) hx1
 refine ⟨_, rfl, _, rfl, _, rfl, fl, _, rfl, SqL.of (s1 _ _ P.f), fun x2 hx2 => ?_⟩
 have s2 := Qae (o := .lst (cutV (fs.map V.str) none (some (m % ((fs.map V.str).length : Int))))) hx2
 obtain ⟨t, ht⟩ : ∃ t : Nat, m % ((fs.map V.str).length : Int) = (t : Int) := Int.eq_ofNat_of_zero_le (Int.emod_nonneg _ (by omega))
 obtain ⟨us, hu, lu, nu, mu⟩ := Ql4 fs t hfn
 rw [← ht] at hu
 have hlu := congrArg List.length hu
 rw [List.length_append] at hlu
 have lum : (us.map V.str).length = us.length := List.length_map ..
 refine ⟨x1, x2, _, _, rfl, rfl, s2 _ _ Qab, Qab, by omega, fun x3 hx3 => ?_⟩
 rw [hu]
 have s3 := Qae (o := .lst (us.map V.str)) hx3
 have s13 := (s1.trans s2).trans s3
 refine ⟨(by show 0 ≤ sizeLine; decide), fun p hp => ?_⟩
 have s4 := Qae (o := .lst []) hp
 have hp0 := s13.free hp
 have nxp : x3 ≠ p := Qai Qab hp
 refine ⟨_, rfl, x3, _, rfl, .inl (SqL.of (s4 _ _ Qab)), _, rfl, by omega, by omega, ?_⟩
 refine Qbk (fun i σ H' => ∃ (o7 o10 o11 : Option V) (R : List Rw), σ = [some (.ref a), some (.ref fl), some (.ref sl), some (.int (ns.getD 1 0)), some (.int (m % ((fs.map V.str).length : Int))), some (.ref x3), some (.ref p), o7, none, none, o10, o11, none, none] ∧ Same H H' ∧ H' x3 = some (.lst (us.map V.str)) ∧ H' p = some (.lst (rfw R)) ∧ RW H' fs (fs ++ ss) R ∧ R.length = i ∧ ∀ j < i, ∀ f, us[j]? = some f → ∃ z ∈ R, z.2.2.1 = f ∧ (z.2.1 ∉ fs ∨ ∃ j2, j2 < j ∧ us[j2]? = some z.2.1)) ⟨_, _, _, [], rfl, s13.trans s4, s4 _ _ Qab, Qab, (fun z hz => nomatch hz), rfl, fun j hj => absurd hj (Nat.not_lt_zero _)⟩ ?_ ?_
 ·rintro i σ H1 hi ⟨o7, o10, o11, R, rfl, e, hx, hpp, hR, hRl, hrk⟩
  have hiu : i < us.length := by omega
  refine ⟨_, rfl, _, rfl, _, _, rfl, rfl, Qb9 (by omega) (by omega) (by omega) (by omega), _, _, rfl, rfl, _, _, rfl, by omega, fun pk k0 k1 => ?_⟩
  obtain ⟨w, wm, hw⟩ := Qca (ws := ss) (i := pk % ((ss.map V.str).length : Int)) (Int.emod_nonneg _ (by omega)) (by rw [← lsm]; exact Int.emod_lt_of_pos _ (by omega))
  refine ⟨_, rfl, _, rfl, _, rfl, sl, _, rfl, .inl (SqL.of (e _ _ P.s)), _, _, rfl, rfl, (by show (0 : Int) < ((ss.map V.str).length : Int); omega), .inl ⟨sl, _, _, _, rfl, rfl, SqL.of (e _ _ P.s), hw, ?_⟩⟩
  have wnf : w ∉ fs := fun c => (List.nodup_append.mp P.nd).2.2 w c w wm rfl
  apply join1 (fun (x : Str) => x ∈ fs ++ ss ∧ (x ∉ fs ∨ ∃ j2, j2 < i ∧ us[j2]? = some x))
  ·intro k
   refine ⟨_, rfl, _, _, rfl, rfl, _, rfl, ?_⟩
   refine dec2 (fun h => ?a) (fun h => iteF ?b)
   case b =>
    obtain ⟨x, ex⟩ : ∃ x : Str, x = w := ⟨_, rfl⟩
    rw [← ex]
    exact k x (by rw [ex]; exact ⟨List.mem_append_right _ wm, .inl wnf⟩)
   case a =>
    refine ⟨_, rfl, _, _, rfl, rfl, ⟨by decide, by decide⟩, _, _, rfl, rfl, (by show (0 : Int) < 3; decide), rfl, _, rfl, ?_⟩
    refine ndec2 (fun h2 => ?_) (fun h2 => ?_)
    ·have hk0 : (0 : Int) < 0 + (i : Int) := h
     obtain ⟨v, j2, vj, hj2, hv⟩ := Qk8 (ws := us) (i := pk / 21 % (0 + (i : Int))) (Int.emod_nonneg _ (by omega)) (by have := Int.emod_lt_of_pos (pk / 21) hk0; omega)
     have hj2i : j2 < i := by have := Int.emod_lt_of_pos (pk / 21) hk0; omega
     exact ⟨_, rfl, _, rfl, _, _, rfl, rfl, ⟨by decide, by decide⟩, _, rfl, _, _, rfl, rfl, hk0, .inl ⟨x3, _, _, _, rfl, rfl, SqL.of hx, hv, k v ⟨List.mem_append_left _ ((mu v).mp (List.mem_of_getElem? vj)), .inr ⟨j2, hj2i, vj⟩⟩⟩⟩
    ·exact k w ⟨List.mem_append_right _ wm, .inl wnf⟩
  intro h ⟨hh, hhr⟩
  obtain ⟨f, jf, vjf, hjf, hf⟩ := Qk8 (ws := us) (i := 0 + (i : Int)) (by omega) (by omega)
  have fm := List.mem_of_getElem? vjf
  have ejf : jf = i := by omega
  rw [ejf] at vjf
  refine ⟨_, rfl, .inl ⟨rfl, _, SqL.of hpp⟩, _, rfl, _, rfl, _, rfl, .inl ⟨x3, _, _, _, rfl, rfl, SqL.of hx, hf, _, rfl, _, rfl, _, _, rfl, rfl, Qb9 (by omega) (by omega) (by omega) (by omega), _, _, rfl, rfl, _, _, rfl, by omega, fun m5 g0 g1 => ⟨m5, rfl, Qnu g0 g1, fun n hn1 hn2 => ⟨(by show 3 ≤ sizeLine; decide), fun y hy => ?_⟩⟩⟩⟩
  have fy := Qae (o := tup3 (y, h, f, n)) hy
  refine ⟨p, _, _, rfl, rfl, fy _ _ hpp, (by rw [Qay]; omega), ?_⟩
  refine ⟨_, _, _, R ++ [(y, h, f, n)], rfl, Qbb (e.trans fy) hp0, (by rw [Qah nxp]; exact fy _ _ hx), (by rw [Qab, Qem]; rfl), fun z hz => ?_, by rw [List.length_append, hRl]; rfl, fun j hj f2 hf2 => ?_⟩
  ·rcases List.mem_append.mp hz with c | c
   ·exact ⟨Qa8 (fy _ _ (hR z c).1) (fy _ _ hpp), (hR z c).2⟩
   ·rw [List.mem_singleton.mp c]
    exact ⟨Qa8 Qab (fy _ _ hpp), hh, (mu f).mp fm, hn1, hn2⟩
  ·by_cases cj : j = i
   ·rw [cj, vjf] at hf2
    cases hf2
    refine ⟨(y, h, f, n), List.mem_append_right _ (List.mem_singleton.mpr rfl), rfl, ?_⟩
    rw [cj]
    exact hhr
   ·obtain ⟨z, hz, q1, q2⟩ := hrk j (by omega) f2 hf2
    exact ⟨z, List.mem_append_left _ hz, q1, q2⟩
 rintro σ H1 ⟨o7, o10, o11, R, rfl, e, hx, hpp, hR, hRl, hrk⟩
 have hRk : Rk fs R := rk_of nu (fun f hf => (mu f).mpr hf) (fun j hj f hf => hrk j (by omega) f hf)
 clear hrk
 obtain ⟨ds, hds, lds, mds⟩ := Qk2 ns (some 4) (some 52)
 have ldm : (ds.map V.int).length = ds.length := List.length_map ..
 have hd48 : ds.length ≤ 48 := by
  have h := congrArg List.length hds
  rw [List.length_map] at h
  unfold cutV at h
  rw [List.length_take, List.length_map] at h
  have a1 : HT.sIx ns.length ns.length (some 52) = min 52 ns.length := by
   rw [show (52 : Int) = ((52 : Nat) : Int) from rfl, HT.sIx_nat]
  have a2 : HT.sIx ns.length 0 (some 4) = min 4 ns.length := by
   rw [show (4 : Int) = ((4 : Nat) : Int) from rfl, HT.sIx_nat]
  omega
 refine ⟨_, rfl, _, rfl, _, rfl, a, _, rfl, e.seq hS, fun cu hcu => ?_⟩
 rw [hds]
 have g1 := Qae (o := .lst (ds.map V.int)) hcu
 refine ⟨_, rfl, _, rfl, fl, sl, _, _, rfl, rfl, g1 _ _ (e _ _ P.f), g1 _ _ (e _ _ P.s), (by omega), fun ev hev => ?_⟩
 have g2 := Qae (o := .lst (fs.map V.str ++ ss.map V.str)) hev
 have hp2 := g2 _ _ (g1 _ _ hpp)
 have ncp : cu ≠ p := fun w => by
  rw [w, hpp] at hcu
  cases hcu
 have nep : ev ≠ p := fun w => by
  rw [w, g1 _ _ hpp] at hev
  cases hev
 have lem : (fs.map V.str ++ ss.map V.str) = (fs ++ ss).map V.str := by rw [List.map_append]
 rw [lem]
 rw [lem] at g2 hp2
 have e12 := (e.trans g1).trans g2
 have lel : ((fs ++ ss).map V.str).length = fs.length + ss.length := by rw [List.length_map, List.length_append]
 refine ⟨_, rfl, cu, _, rfl, .inl (SqL.of (g2 _ _ Qab)), _, _, rfl, rfl, ⟨by decide, by decide⟩, _, rfl, by omega, by omega, ?_⟩
 refine Qbk (fun i σ H' => ∃ (o7 o10 o11 o12 o13 : Option V) (R : List Rw), σ = [some (.ref a), some (.ref fl), some (.ref sl), some (.int (ns.getD 1 0)), some (.int (m % ((fs.map V.str).length : Int))), some (.ref x3), some (.ref p), o7, some (.ref cu), some (.ref ev), o10, o11, o12, o13] ∧ Same H H' ∧ H' cu = some (.lst (ds.map V.int)) ∧ H' ev = some (.lst ((fs ++ ss).map V.str)) ∧ H' p = some (.lst (rfw R)) ∧ RW H' fs (fs ++ ss) R ∧ Rk fs R ∧ R.length ≤ 6 + i) ⟨_, _, _, _, _, R, rfl, e12, g2 _ _ Qab, Qab, hp2, (hR.same g1).same g2, hRk, by omega⟩ ?_ ?_
 ·clear hpp hR hRl hRk hp2 e12 g1 g2 hcu hev e
  rintro i σ H2 hi ⟨o7, o10, o11, o12, o13, R, rfl, e, hcc, hee, hpp, hR, hRk, hRl⟩
  have hi2 : 2 * i + 1 < ds.length := by omega
  obtain ⟨c1, _, hc1⟩ := Qi8 (ws := ds) (i := 2 * (0 + (i : Int))) (by omega) (by omega)
  obtain ⟨c2, mc2, hc2⟩ := Qi8 (ws := ds) (i := 2 * (0 + (i : Int)) + 1) (by omega) (by omega)
  refine ⟨_, rfl, _, rfl, _, _, rfl, rfl, Qb9 (by omega) (by omega) (by omega) (by omega), .inl ⟨cu, _, _, _, rfl, rfl, SqL.of hcc, hc1, ?_⟩⟩
  refine ⟨_, rfl, _, rfl, c1, 48271, rfl, by decide, fun n1 a0 a1 => ⟨_, rfl, ev, _, rfl, .inl (SqL.of hee), _, _, rfl, rfl, (by show (0 : Int) < (((fs ++ ss).map V.str).length : Int); omega), ?_⟩⟩
  obtain ⟨h, hh, hw⟩ := Qca (ws := fs ++ ss) (i := n1 % (((fs ++ ss).map V.str).length : Int)) (Int.emod_nonneg _ (by omega)) (by have := Int.emod_lt_of_pos n1 (show (0 : Int) < (((fs ++ ss).map V.str).length : Int) by omega); rw [List.length_map] at this ⊢; exact this)
  refine .inl ⟨ev, _, _, _, rfl, rfl, SqL.of hee, hw, ?_⟩
  refine ⟨_, rfl, _, rfl, c1, 69621, rfl, by decide, fun n2 b0 b1 => ⟨_, rfl, fl, _, rfl, .inl (SqL.of (e _ _ P.f)), _, _, rfl, rfl, (by show (0 : Int) < ((fs.map V.str).length : Int); omega), ?_⟩⟩
  obtain ⟨f, fm, hf⟩ := Qca (ws := fs) (i := n2 % ((fs.map V.str).length : Int)) (Int.emod_nonneg _ (by omega)) (by rw [← lfm]; exact Int.emod_lt_of_pos _ (by omega))
  refine .inl ⟨fl, _, _, _, rfl, rfl, SqL.of (e _ _ P.f), hf, ?_⟩
  refine ⟨_, rfl, c1, 16807, rfl, by decide, fun n3 d0 d1 => ⟨_, rfl, p, _, rfl, .inl (SqL.of hpp), _, _, rfl, rfl, _, _, rfl, rfl, (by show (0 : Int) < ((rfw R).length : Int) + 1; omega), ?_⟩⟩
  have w0 := Int.emod_nonneg n3 (show ((rfw R).length : Int) + 1 ≠ 0 by omega)
  have w1 := Int.emod_lt_of_pos n3 (show 0 < ((rfw R).length : Int) + 1 by omega)
  have hk : ((n3 % (((rfw R).length : Int) + 1)).toNat : Int) = n3 % (((rfw R).length : Int) + 1) := Int.toNat_of_nonneg w0
  refine ⟨_, rfl, .inl ⟨rfl, _, SqL.of hpp⟩, _, rfl, _, rfl, _, rfl, _, rfl, _, rfl, _, _, rfl, rfl, Qb9 (by omega) (by omega) (by omega) (by omega), _, _, rfl, rfl, .inl ⟨cu, _, _, _, rfl, rfl, SqL.of hcc, hc2, c2, rfl, hb c2 (mds c2 mc2), fun n hn1 hn2 => ⟨(by show 3 ≤ sizeLine; decide), fun y hy => ?_⟩⟩⟩
  have fy := Qae (o := tup3 (y, h, f, n)) hy
  refine ⟨p, _, (n3 % (((rfw R).length : Int) + 1)).toNat, _, rfl, congrArg (fun z => [V.int z, V.ref y]) hk.symm, fy _ _ hpp, (by omega), (by rw [Qay]; omega), ?_⟩
  rw [Qel R _ (y, h, f, n)]
  refine ⟨_, _, _, _, _, R.take (n3 % (((rfw R).length : Int) + 1)).toNat ++ (y, h, f, n) :: R.drop (n3 % (((rfw R).length : Int) + 1)).toNat, rfl, Qbb (e.trans fy) hp0, (by rw [Qah ncp]; exact fy _ _ hcc), (by rw [Qah nep]; exact fy _ _ hee), Qab, fun z hz => ?_, hRk.sub (fun z hz => Qm5 hz), (by rw [List.length_append, List.length_cons, List.length_take, List.length_drop]; omega)⟩
  rcases List.mem_append.mp hz with c | c
  ·exact ⟨Qa8 (fy _ _ (hR z (List.mem_of_mem_take c)).1) (fy _ _ hpp), (hR z (List.mem_of_mem_take c)).2⟩
  ·rcases List.mem_cons.mp c with c | c
   ·rw [c]
    exact ⟨Qa8 Qab (fy _ _ hpp), hh, fm, hn1, hn2⟩
   ·exact ⟨Qa8 (fy _ _ (hR z (List.mem_of_mem_drop c)).1) (fy _ _ hpp), (hR z (List.mem_of_mem_drop c)).2⟩
 rintro σ H2 ⟨o7', o10', o11', o12, o13, R', rfl, e', hcc, hee, hpp', hR', hRk', hRl'⟩
 exact ⟨_, rfl, q p R' _ e' hp0 hpp' hR' hRk' (by omega)⟩
theorem Ql0 {fs : List Str} {R : List Rw} {k : Nat} {f : Str} (hf : fs[k]? = some f) : (fs.map (dueR fs R)).getD k [] = dueR fs R f := by
 rw [List.getD_eq_getElem?_getD, List.getElem?_map, hf]
 rfl
theorem Qlz {fs : List Str} {R : List Rw} {f h : Str} {j : Nat} (hj : fs[j]? = some h) : N45.gt (dueR fs R f) j = (if h = f then alls R f else 0) - held R h f := by
 unfold N45.gt dueR
 rw [List.getD_eq_getElem?_getD, List.getElem?_map, hj]
 rfl
def outr (R : List Rw) (f : Str) (p : Str → Bool) : Int := (R.map fun z => if z.2.2.1 = f then (if p z.2.1 = true then 0 else z.2.2.2) else 0).sum
theorem Qd0 (z : Rw) (R : List Rw) (f : Str) (p : Str → Bool) : outr (z :: R) f p = (if z.2.2.1 = f then (if p z.2.1 = true then 0 else z.2.2.2) else 0) + outr R f p := by
 unfold outr
 rw [List.map_cons, List.sum_cons]
theorem Qf1 {f : Str} {p : Str → Bool} : ∀ {R : List Rw}, (∀ z ∈ R, 1 ≤ z.2.2.2) → 0 ≤ outr R f p
 | [], _ => Int.le_refl _
 | z :: R, h => by
   rw [Qd0]
   have := Qf1 (f := f) (p := p) fun y hy => h y (List.mem_cons_of_mem _ hy)
   have := h z List.mem_cons_self
   split
   ·split <;> omega
   ·omega
theorem Qgy {f : Str} {p : Str → Bool} {y : Rw} (hf : y.2.2.1 = f) (hp : ¬ p y.2.1 = true) : ∀ {R : List Rw}, (∀ z ∈ R, 1 ≤ z.2.2.2) → y ∈ R → 0 < outr R f p
 | [], _, hy => nomatch hy
 | z :: R, h, hy => by
   rw [Qd0]
   have a := Qf1 (f := f) (p := p) fun y hy => h y (List.mem_cons_of_mem _ hy)
   have b := h z List.mem_cons_self
   rcases List.mem_cons.mp hy with e | hy
   ·subst e
    rw [if_pos hf, if_neg hp]
    omega
   ·have := Qgy hf hp (fun y hy => h y (List.mem_cons_of_mem _ hy)) hy
    split
    ·split <;> omega
    ·omega
theorem sum_p {fs : List Str} {p : Str → Bool} (hn : fs.Nodup) (hp : ∀ x, p x = true → x ∈ fs) (a : Str) (x : Int) : (fs.map fun h => if p h = true then (if a = h then x else 0) else 0).sum = if p a = true then x else 0 := by
 by_cases c : p a = true
 ·rw [if_pos c]
  have e : (fun h => if p h = true then (if a = h then x else 0) else 0) = fun h => if a = h then x else 0 := funext fun h => by
   by_cases d : a = h
   ·subst d
    rw [if_pos c]
   ·rw [if_neg d]
    split <;> rfl
  rw [e, Qi9 x hn (hp a c)]
 ·rw [if_neg c]
  have e : (fun h => if p h = true then (if a = h then x else 0) else 0) = fun _ => (0 : Int) := funext fun h => by
   by_cases d : a = h
   ·subst d
    rw [if_neg c]
   ·rw [if_neg d]
    split <;> rfl
  rw [e, Qeh]
theorem Qlu {fs : List Str} {p : Str → Bool} (hn : fs.Nodup) (hp : ∀ x, p x = true → x ∈ fs) (f : Str) : ∀ R : List Rw, alls R f - (fs.map fun h => if p h = true then held R h f else 0).sum = outr R f p
 | [] => by
   have e : (fun h => if p h = true then held [] h f else 0) = fun _ => (0 : Int) := funext fun h => by split <;> rfl
   rw [e, Qeh]
   rfl
 | z :: R => by
   have e : (fun h => if p h = true then held (z :: R) h f else 0) = fun h => (if p h = true then (if z.2.1 = h then (if z.2.2.1 = f then z.2.2.2 else 0) else 0) else 0) + (if p h = true then held R h f else 0) := funext fun h => by
    rw [Qd3]
    split <;> rfl
   rw [e, Qh0, sum_p hn hp, Qfs, Qd0, ← Qlu hn hp f R]
   generalize (fs.map fun h => if p h = true then held R h f else 0).sum = s
   by_cases a : z.2.2.1 = f
   ·rw [if_pos a, if_pos a]
    split <;> omega
   ·rw [if_neg a, if_neg a]
    split <;> omega
theorem Qme (fs : List Str) (g : Str → Int) (F : Nat → Int) (h : ∀ j x, fs[j]? = some x → F j = g x) : N45.sm fs.length F = (fs.map g).sum := by
 rw [← N45.Qk9]
 refine congrArg List.sum (List.ext_getElem? fun j => ?_)
 rw [List.getElem?_map, List.getElem?_map]
 by_cases c : j < fs.length
 ·rw [List.getElem?_range c, List.getElem?_eq_getElem c]
  exact congrArg some (h j _ (List.getElem?_eq_getElem c))
 ·rw [List.getElem?_eq_none (by rw [List.length_range]; omega), List.getElem?_eq_none (by omega)]
  rfl
def pN (fs : List Str) (N : Nat → Bool) (x : Str) : Bool := (List.range fs.length).any fun j => decide (fs[j]? = some x) && N j
theorem Qgx {fs : List Str} {N : Nat → Bool} {x : Str} : pN fs N x = true ↔ ∃ j, fs[j]? = some x ∧ N j = true := by
 unfold pN
 rw [List.any_eq_true]
 constructor
 ·rintro ⟨j, _, h⟩
  rw [Bool.and_eq_true, decide_eq_true_eq] at h
  exact ⟨j, h⟩
 ·rintro ⟨j, h1, h2⟩
  exact ⟨j, List.mem_range.mpr (List.getElem?_eq_some_iff.mp h1).1, by rw [Bool.and_eq_true, decide_eq_true_eq]; exact ⟨h1, h2⟩⟩
theorem nd_ix {fs : List Str} (hn : fs.Nodup) {i j : Nat} {x : Str} (h1 : fs[i]? = some x) (h2 : fs[j]? = some x) : i = j := by
 obtain ⟨a1, b1⟩ := List.getElem?_eq_some_iff.mp h1
 obtain ⟨a2, b2⟩ := List.getElem?_eq_some_iff.mp h2
 exact (List.getElem_inj hn).mp (b1.trans b2.symm)
theorem Qly {fs : List Str} {R : List Rw} (hn : fs.Nodup) (N : Nat → Bool) {k : Nat} {f : Str} (hf : fs[k]? = some f) (hk : N k = true) : N45.sN (fs.map (dueR fs R)) N k = outr R f (pN fs N) := by
 have pf : pN fs N f = true := Qgx.mpr ⟨k, hf, hk⟩
 have pm : ∀ x, pN fs N x = true → x ∈ fs := fun x h => by
  obtain ⟨j, hj, _⟩ := Qgx.mp h
  exact List.mem_of_getElem? hj
 unfold N45.sN
 rw [Ql0 hf, List.length_map, Qme fs (fun h => (if pN fs N h = true then (if f = h then alls R f else 0) else 0) - (if pN fs N h = true then held R h f else 0)) _ fun j x hj => ?_]
 ·rw [Qhz, sum_p hn pm, if_pos pf, Qlu hn pm]
 ·have e : N j = pN fs N x := by
   rw [Bool.eq_iff_iff, Qgx]
   constructor
   ·exact fun h => ⟨j, hj, h⟩
   ·rintro ⟨i, hi, h⟩
    rw [nd_ix hn hj hi]
    exact h
  rw [Qlz hj, e]
  by_cases c : pN fs N x = true
  ·rw [if_pos c, if_pos c, if_pos c]
   by_cases d : x = f
   ·rw [if_pos d, if_pos d.symm]
   ·rw [if_neg d, if_neg (Ne.symm d)]
  ·rw [if_neg c, if_neg c, if_neg c]
   rfl
theorem Qcv {α : Type} {l : List α} {k : Nat} (h : k < l.length) : ∃ x, l[k]? = some x := ⟨l[k], List.getElem?_eq_getElem h⟩
theorem Qf6 {R : List Rw} (h1 : ∀ z ∈ R, 1 ≤ z.2.2.2) (h f : Str) : 0 ≤ held R h f := by
 induction R with
 | nil => exact Int.le_refl _
 | cons z R ih =>
   rw [Qd3]
   have := ih fun y hy => h1 y (List.mem_cons_of_mem _ hy)
   have := h1 z List.mem_cons_self
   split
   ·split <;> omega
   ·omega
theorem Qjc {R : List Rw} (h1 : ∀ z ∈ R, 1 ≤ z.2.2.2) (h2 : ∀ z ∈ R, z.2.2.2 ≤ 1000000) (h f : Str) : held R h f ≤ alls R f ∧ alls R f ≤ 1000000 * R.length := by
 induction R with
 | nil => exact ⟨Int.le_refl _, Int.le_refl _⟩
 | cons z R ih =>
   rw [Qd3, Qfs, List.length_cons]
   have := ih (fun y hy => h1 y (List.mem_cons_of_mem _ hy)) fun y hy => h2 y (List.mem_cons_of_mem _ hy)
   have := h1 z List.mem_cons_self
   have := h2 z List.mem_cons_self
   constructor
   ·split
    ·split <;> omega
    ·split <;> omega
   ·split <;> omega
theorem Qjk {fs : List Str} {R : List Rw} (hn : fs.Nodup) (h1 : ∀ z ∈ R, 1 ≤ z.2.2.2) (hk : Rk fs R) : N45.Mm (fs.map (dueR fs R)) := by
 have ll : (fs.map (dueR fs R)).length = fs.length := List.length_map ..
 refine ⟨fun k hk j hj hne => ?_, fun N k hk hN => ?_, fun N => ?_⟩
 ·rw [ll] at hk hj
  obtain ⟨f, hf⟩ := Qcv hk
  obtain ⟨h, hh⟩ := Qcv hj
  rw [Ql0 hf, Qlz hh, if_neg fun e => hne (nd_ix hn hf (by rw [← e]; exact hh))]
  have := Qf6 h1 h f
  omega
 ·rw [ll] at hk
  obtain ⟨f, hf⟩ := Qcv hk
  rw [Qly hn N hf hN]
  exact Qf1 h1
 ·rintro ⟨k, hkl, hN⟩
  rw [ll] at hkl ⊢
  obtain ⟨rank, hr⟩ := hk
  have key : ∀ n k f, fs[k]? = some f → N k = true → rank f < n → ∃ k, k < fs.length ∧ N k = true ∧ 0 < N45.sN (fs.map (dueR fs R)) N k := by
   intro n
   induction n with
   | zero => exact fun k f _ _ h => absurd h (Nat.not_lt_zero _)
   | succ n ih =>
     intro k f hf hN hlt
     obtain ⟨z, hz, q1, q2⟩ := hr f (List.mem_of_getElem? hf)
     by_cases c : pN fs N z.2.1 = true
     ·obtain ⟨j, hj, hNj⟩ := Qgx.mp c
      rcases q2 with q2 | q2
      ·exact absurd (List.mem_of_getElem? hj) q2
      ·exact ih j z.2.1 hj hNj (by omega)
     ·exact ⟨k, (List.getElem?_eq_some_iff.mp hf).1, hN, by rw [Qly hn N hf hN]; exact Qgy q1 c h1 hz⟩
  obtain ⟨f, hf⟩ := Qcv hkl
  exact key _ k f hf hN (Nat.lt_succ_self _)
theorem Qlx {fs : List Str} {R : List Rw} (h1 : ∀ z ∈ R, 1 ≤ z.2.2.2) (h2 : ∀ z ∈ R, z.2.2.2 ≤ 1000000) (hl : R.length ≤ 62) : N45.Squ (fs.map (dueR fs R)) 26 := by
 refine ⟨fun r hr => ?_, fun r hr x hx => ?_, by decide⟩
 ·obtain ⟨f, _, rfl⟩ := List.mem_map.mp hr
  rw [List.length_map]
  exact List.length_map ..
 ·obtain ⟨f, _, rfl⟩ := List.mem_map.mp hr
  obtain ⟨h, _, rfl⟩ := List.mem_map.mp hx
  have a := Qf6 h1 h f
  have b := Qjc h1 h2 h f
  unfold N45.Bt
  split <;> omega
theorem ex26 {m : Nat} (h : m ≤ 6) : N45.ex 26 m ≤ 1990 := by
 have : m = 0 ∨ m = 1 ∨ m = 2 ∨ m = 3 ∨ m = 4 ∨ m = 5 ∨ m = 6 := by omega
 rcases this with rfl | rfl | rfl | rfl | rfl | rfl | rfl <;> decide
theorem Qbx {α : Type} [BEq α] [LawfulBEq α] : ∀ (l A : List α), l.Nodup → (∀ x ∈ l, x ∈ A) → l.length ≤ A.length
 | [], _, _, _ => Nat.zero_le _
 | a :: r, A, h, hs => by
   have h1 := List.nodup_cons.mp h
   have h2 := Qbx r (A.erase a) h1.2 fun x hx => (List.mem_erase_of_ne (fun e => h1.1 (by rw [← e]; exact hx))).mpr (hs x (List.mem_cons_of_mem _ hx))
   have h3 := List.length_erase_of_mem (hs a List.mem_cons_self)
   have h4 := List.length_pos_of_mem (hs a List.mem_cons_self)
   rw [List.length_cons]
   omega
theorem Qdp {l : List Str} (h : l.Pairwise (fun a b => ltS a b = true)) : l.Nodup := h.imp fun e => Qg0 e
def kd (D : List (Str × Int)) : List (Key × V) := D.map fun p => (Sum.inr p.1, .int p.2)
theorem Qlr (D : List (Str × Int)) : (kd D).length = D.length := List.length_map ..
theorem Qls (A B : List (Str × Int)) : kd (A ++ B) = kd A ++ kd B := List.map_append ..
def lv (D : List (Str × Int)) (x : Str) : Option Int := D.lookup x
theorem Qi2 (D : List (Str × Int)) (x : Str) : valV (kd D) (Sum.inr x) = (lv D x).map V.int := by
 induction D with
 | nil => rfl
 | cons p D ih =>
   obtain ⟨a, b⟩ := p
   unfold lv at ih ⊢
   unfold kd valV at *
   by_cases h : a = x
   ·subst h
    simp
   ·have hb : (x == a) = false := by simpa using fun e : x = a => h e.symm
    rw [List.lookup, hb]
    simp [h] at ih ⊢
    exact ih
theorem Qmx {D : List (Str × Int)} {x : Str} : (lv D x).isSome = true ↔ x ∈ D.map (·.1) := by
 induction D with
 | nil => simp [lv]
 | cons p D ih =>
   obtain ⟨a, b⟩ := p
   unfold lv at ih ⊢
   by_cases h : x = a
   ·subst h
    simp
   ·have hb : (x == a) = false := by simpa using h
    rw [List.lookup, hb]
    simp only [List.map_cons, List.mem_cons]
    rw [ih]
    simp [h]
def lead (fs : List Str) (R : List Rw) (D : List (Str × Int)) (f : Str) : Prop := ∃ z ∈ R, z.2.2.1 = f ∧ (z.2.1 ∉ fs ∨ z.2.1 ∈ D.map (·.1))
instance {fs : List Str} {R : List Rw} {D : List (Str × Int)} {f : Str} : Decidable (lead fs R D f) := by unfold lead; infer_instance
def spLead : Sp := fun vs H Q _ => ∃ (fl l d : Addr) (fs : List Str) (R : List Rw) (D : List (Str × Int)) (f : Str) (gs es : List Str), vs = [.ref fl, .ref l, .str f, .ref d] ∧ H fl = some (.lst (fs.map V.str)) ∧ H l = some (.lst (rfw R)) ∧ RX H gs es R ∧ R.length ≤ 62 ∧ H d = some (.dK (kd D)) ∧ ∀ H', Same H H' → Q (.bl (decide (lead fs R D f))) H'
theorem scbc0 : FnScope ["firms", "rows", "firm", "levels"] ["firms", "rows", "firm", "levels"] (defScope sbc0) := fsc
theorem okbc0 (D : Def K mg "leads_on" sbc0 .none) (cbh0 : Cal P w K mg base CX0 true 1 "owners_of" ["rows", "firm"] [] spOwn) (z_any : mg "any" = none) : Cal P w K mg base CX0 true 2 "leads_on" ["firms", "rows", "firm", "levels"] [] spLead := by
 obtain ⟨f, fd, F, hm⟩ := D
 obtain ⟨fbh0, fdbh0, dbh0, Gbh0, mbh0, kbh0, bbh0, vbh0, bbh01⟩ := cbh0
 refine ⟨f, fd, _, F.ok scbc0 (fun vs H Q E h => ?_) (fun cdv A outer s H vs Q E hr h => ?_), hm, F.kp, (F.b4), .nil, F.b4⟩
 ·obtain ⟨fl, l, d, fs, R, D, f, gs, es, rfl, hfl, hl, hR, hlen, hd, q⟩ := h
  rfl
 obtain ⟨fl, l, d, fs, R, D, f, gs, es, rfl, hfl, hl, hR, hlen, hd, q⟩ := h
 have nd := scbc0.nd
 refine ⟨_, (Qag (Qaq (Qan (Qk4 hr) rfl z_any bt_any (Qaa (Qdl [0, 3] rfl (LcOk.free ["levels", "firms"] rfl rfl (List.forall_mem_cons.mpr ⟨rfl, (List.forall_mem_cons.mpr ⟨rfl, (fun _ h => nomatch h)⟩)⟩) (by decide+kernel) rfl (by decide+kernel) rfl (by decide+kernel) (show (["owner", "firms", "levels"] : List Str).Nodup from by decide+kernel) (List.forall_mem_cons.mpr ⟨⟨_, rfl, rfl, rfl, by decide+kernel⟩, (List.forall_mem_cons.mpr ⟨⟨_, rfl, rfl, rfl, by decide+kernel⟩, (fun _ h => nomatch h)⟩)⟩)) (Qas (Qak Gbh0 (hr.mono (by decide)) rfl mbh0 kbh0 bbh0 Paired.nil pass0 (Qaa (pv 1) (Qaa (pv 2) Qad)))) (fun C s2 H2 fp xe => (pe_or (Qbz Qbv (pv 0) (pv 1) (by with_unfolding_all rfl)) (Qdx (pe_cmp (pc_din (Qm7 hr) (pv 0) (pv 2))))))) Qad)))), ?_⟩
 have hline : 10 ^ 6 ≤ sizeLine := by decide
 refine ⟨_, rfl, _, rfl, l, R, f, gs, es, rfl, hl, hR, hlen, fun p zs H1 e1 hp0 hp mm pw => ⟨p, rfl, ⟨_, SqL.of hp⟩, ?_⟩⟩
 have lz : zs.length ≤ 62 := by
  have h1 := Qbx zs (R.map (·.2.1)) (Qdp pw) fun x hx => by
   obtain ⟨z, hz, _, h2⟩ := (mm x).mp hx
   exact List.mem_map.mpr ⟨z, hz, h2⟩
  rw [List.length_map] at h1
  omega
 have lzm : (zs.map V.str).length = zs.length := List.length_map ..
 refine Qb8 (xs := zs.map V.str) (fun j ys H' => ys = ((zs.take j).map fun x => decide (x ∉ fs ∨ x ∈ D.map (·.1))).map V.bl ∧ H' = H1) ⟨rfl, rfl⟩ (by omega) ?_ ?_ ?_
 ·rintro j ys H5 hj ⟨rfl, rfl⟩
  refine ⟨SqL.of hp, ?_⟩
  rw [List.length_map, List.length_map, List.length_take]
  omega
 ·rintro j x ys H5 hx ⟨rfl, rfl⟩
  obtain ⟨h, hh, rfl⟩ := Qbq hx
  have fin : ∀ b, b = decide (h ∉ fs ∨ h ∈ D.map (·.1)) → ((zs.take j).map fun x => decide (x ∉ fs ∨ x ∈ D.map (·.1))).map V.bl ++ [V.bl b] = ((zs.take (j + 1)).map fun x => decide (x ∉ fs ∨ x ∈ D.map (·.1))).map V.bl := fun b e => by
   rw [Qat hh, List.map_append, List.map_append, e]
   rfl
  refine ⟨_, rfl, _, rfl, fl, _, rfl, .inl (SqL.of (e1 _ _ hfl)), rfl, Qbf _, _, rfl, ?_⟩
  rw [Qby]
  refine ndec2 (fun h2 => ?_) (fun h2 => ?_)
  ·exact ⟨fin true (decide_eq_true (.inl h2)).symm, rfl⟩
  ·refine ⟨_, rfl, _, rfl, d, _, rfl, DGet.k (k := Sum.inr h) (e1 _ _ hd), fin _ ?_, rfl⟩
   rw [Qi2, Option.isSome_map, Bool.eq_iff_iff, Qmx, decide_eq_true_eq]
   exact ⟨.inr, fun w => w.elim (fun w => absurd h2 w) id⟩
 rintro ys H5 ⟨rfl, rfl⟩ k1 hk1
 rw [lzm, List.take_length]
 refine ⟨k1, _, rfl, SqL.of Qab, ?_⟩
 have ev : (zs.map fun x => decide (x ∉ fs ∨ x ∈ D.map (·.1))).any id = decide (lead fs R D f) := by
  rw [Bool.eq_iff_iff, List.any_map, List.any_eq_true, decide_eq_true_eq]
  constructor
  ·rintro ⟨x, hx, h⟩
   obtain ⟨z, hz, h1, h2⟩ := (mm x).mp hx
   have h3 : x ∉ fs ∨ x ∈ D.map (·.1) := of_decide_eq_true h
   exact ⟨z, hz, h1, by rw [h2]; exact h3⟩
  ·rintro ⟨z, hz, h1, h2⟩
   exact ⟨z.2.1, (mm z.2.1).mpr ⟨z, hz, h1, rfl⟩, decide_eq_true h2⟩
 rw [ev]
 exact q _ (e1.trans (Qae hk1))
theorem Qke {kvs : List (Key × V)} {k : Key} {v : V} (h : k ∉ kvs.map (·.1)) : putK kvs k v = kvs ++ [(k, v)] := by
 unfold putK
 rw [if_neg]
 rw [List.any_eq_true]
 rintro ⟨p, hp, e⟩
 exact h (by rw [← of_decide_eq_true e]; exact List.mem_map_of_mem hp)
theorem Qdb : ∀ {ps kvs : List (Key × V)}, ((kvs ++ ps).map (·.1)).Nodup → putAll kvs ps = kvs ++ ps
 | [], kvs, _ => (List.append_nil _).symm
 | p :: r, kvs, h => by
   have h1 : p.1 ∉ kvs.map (·.1) := fun m => by
    rw [List.map_append, List.map_cons] at h
    exact (List.nodup_append.mp h).2.2 p.1 m p.1 (.head _) rfl
   show putAll (putK kvs p.1 p.2) r = _
   rw [Qke h1, Qdb (kvs := kvs ++ [(p.1, p.2)]) (by rw [List.append_assoc]; exact h), List.append_assoc]
   rfl
theorem Qm2 (D : List (Str × Int)) : (kd D).map (·.1) = (D.map (·.1)).map Sum.inr := by
 unfold kd
 rw [List.map_map, List.map_map]
 rfl
theorem kd_nd {D : List (Str × Int)} (h : (D.map (·.1)).Nodup) : ((kd D).map (·.1)).Nodup := by
 rw [Qm2, List.nodup_iff_pairwise_ne, List.pairwise_map]
 exact (List.nodup_iff_pairwise_ne.mp h).imp fun hne e => hne (Sum.inr.inj e)
structure LI (fs : List Str) (R : List Rw) (D : List (Str × Int)) (n : Nat) : Prop where
 nd : (D.map (·.1)).Nodup
 sub : ∀ p ∈ D, p.1 ∈ fs ∧ 0 ≤ p.2 ∧ p.2 < n
 lvl : ∀ f k, (f, k) ∈ D → (k = 0 ∧ ∃ z ∈ R, z.2.2.1 = f ∧ z.2.1 ∉ fs) ∨ (1 ≤ k ∧ (∀ z ∈ R, z.2.2.1 = f → z.2.1 ∈ fs) ∧ (∃ z ∈ R, z.2.2.1 = f ∧ (z.2.1, k - 1) ∈ D) ∧ ∀ z ∈ R, z.2.2.1 = f → ∀ j, (z.2.1, j) ∈ D → k - 1 ≤ j)
 old : 1 ≤ n → ∀ f ∈ fs, f ∉ D.map (·.1) → ∀ z ∈ R, z.2.2.1 = f → z.2.1 ∈ fs ∧ ∀ j, (z.2.1, j) ∈ D → (n : Int) - 1 ≤ j
def fnd (fs : List Str) (R : List Rw) (D : List (Str × Int)) : List Str := fs.filter fun f => decide (f ∉ D.map (·.1)) && decide (lead fs R D f)
theorem Qdg {fs : List Str} {R : List Rw} {D : List (Str × Int)} {f : Str} : f ∈ fnd fs R D ↔ f ∈ fs ∧ f ∉ D.map (·.1) ∧ lead fs R D f := by
 unfold fnd
 rw [List.mem_filter, Bool.and_eq_true, decide_eq_true_eq, decide_eq_true_eq]
theorem Qff {D : List (Str × Int)} {x : Str} {j : Int} (h : (x, j) ∈ D) : x ∈ D.map (·.1) := List.mem_map.mpr ⟨_, h, rfl⟩
theorem LI.next {fs : List Str} {R : List Rw} {D : List (Str × Int)} {n : Nat} (hn : fs.Nodup) (L : LI fs R D n) : LI fs R (D ++ (fnd fs R D).map fun f => (f, (n : Int))) (n + 1) := by
 have kn : ((fnd fs R D).map fun f => (f, (n : Int))).map (·.1) = fnd fs R D := by
  rw [List.map_map]
  exact List.map_id _
 have hm : ∀ {x : Str} {j : Int}, (x, j) ∈ D ++ (fnd fs R D).map (fun f => (f, (n : Int))) → (x, j) ∈ D ∨ (x ∈ fnd fs R D ∧ j = n) := fun h => by
  rcases List.mem_append.mp h with h | h
  ·exact .inl h
  ·obtain ⟨f, hf, e⟩ := List.mem_map.mp h
   cases e
   exact .inr ⟨hf, rfl⟩
 refine ⟨?_, fun p hp => ?_, fun f k h => ?_, fun _ f hf hk z hz hzf => ?_⟩
 ·rw [List.map_append, kn]
  refine List.nodup_append.mpr ⟨L.nd, hn.filter _, fun x hx y hy e => ?_⟩
  exact (Qdg.mp hy).2.1 (by rw [← e]; exact hx)
 ·obtain ⟨x, j⟩ := p
  rcases hm hp with h | ⟨h, rfl⟩
  ·have := L.sub _ h
   exact ⟨this.1, this.2.1, by have := this.2.2; dsimp only at this ⊢; omega⟩
  ·exact ⟨(Qdg.mp h).1, by dsimp only; omega, by dsimp only; omega⟩
 ·rcases hm h with h | ⟨h2, rfl⟩
  ·rcases L.lvl f k h with a | ⟨a1, a2, ⟨z, hz, h1, h2⟩, a4⟩
   ·exact .inl a
   ·refine .inr ⟨a1, a2, ⟨z, hz, h1, List.mem_append_left _ h2⟩, fun z hz hzf j hj => ?_⟩
    rcases hm hj with hj | ⟨_, rfl⟩
    ·exact a4 z hz hzf j hj
    ·have := (L.sub _ h).2.2
     dsimp only at this
     omega
  ·obtain ⟨b1, b2, z0, hz0, c1, c2⟩ := Qdg.mp h2
   rcases Nat.eq_zero_or_pos n with h0 | h0
   ·subst h0
    refine .inl ⟨rfl, z0, hz0, c1, ?_⟩
    rcases c2 with c2 | c2
    ·exact c2
    ·obtain ⟨p, hp, _⟩ := List.mem_map.mp c2
     have := L.sub _ hp
     omega
   ·have o := L.old h0 f b1 b2
    refine .inr ⟨by omega, fun z hz hzf => (o z hz hzf).1, ?_, fun z hz hzf j hj => ?_⟩
    ·rcases c2 with c2 | c2
     ·exact absurd (o z0 hz0 c1).1 c2
     ·obtain ⟨p, hp, e⟩ := List.mem_map.mp c2
      obtain ⟨x, j⟩ := p
      dsimp only at e
      subst e
      have j1 := (o z0 hz0 c1).2 j hp
      have j2 := (L.sub _ hp).2.2
      dsimp only at j2
      have : j = (n : Int) - 1 := by omega
      exact ⟨z0, hz0, c1, List.mem_append_left _ (by rw [← this]; exact hp)⟩
    ·rcases hm hj with hj | ⟨_, rfl⟩
     ·exact (o z hz hzf).2 j hj
     ·omega
 ·rw [List.map_append, kn, List.mem_append, not_or] at hk
  have nl : ¬ lead fs R D f := fun w => hk.2 (Qdg.mpr ⟨hf, hk.1, w⟩)
  have hzin : z.2.1 ∈ fs := Decidable.byContradiction fun w => nl ⟨z, hz, hzf, .inl w⟩
  refine ⟨hzin, fun j hj => ?_⟩
  rcases hm hj with hj | ⟨_, rfl⟩
  ·exact absurd ⟨z, hz, hzf, .inr (Qff hj)⟩ nl
  ·omega
def spLev : Sp := fun vs H Q _ => ∃ (fl l : Addr) (fs : List Str) (R : List Rw) (gs es : List Str), vs = [.ref fl, .ref l] ∧ H fl = some (.lst (fs.map V.str)) ∧ fs.Nodup ∧ fs.length ≤ 8 ∧ H l = some (.lst (rfw R)) ∧ RX H gs es R ∧ R.length ≤ 62 ∧
 ∀ (d : Addr) (D : List (Str × Int)) (n : Nat) H', Same H H' → H d = none → H' d = some (.dK (kd D)) → LI fs R D n → fnd fs R D = [] → Q (.ref d) H'
theorem scbe0 : FnScope ["firms", "rows", "levels", "level", "found", "waiting"] ["firms", "rows"] (defScope sbe0) := fsc
theorem okbe0 (D : Def K mg "levels_of" sbe0 .none) (cbc0 : Cal P w K mg base CX0 true 2 "leads_on" ["firms", "rows", "firm", "levels"] [] spLead) (z_dict : mg "dict" = none) : Cal P w K mg base CX0 true 3 "levels_of" ["firms", "rows"] [] spLev := by
 obtain ⟨f, fd, F, hm⟩ := D
 obtain ⟨fbc0, fdbc0, dbc0, Gbc0, mbc0, kbc0, bbc0, vbc0, bbc01⟩ := cbc0
 refine ⟨f, fd, _, F.ok scbe0 (fun vs H Q E h => ?_) (fun cdv A outer s H vs Q E hr h => ?_), hm, F.kp, (F.b2), .nil, F.b2⟩
 ·obtain ⟨fl, l, fs, R, gs, es, rfl, hfl, hfn, hf8, hl, hR, hlen, q⟩ := h
  rfl
 obtain ⟨fl, l, fs, R, gs, es, rfl, hfl, hfn, hf8, hl, hR, hlen, q⟩ := h
 have nd := scbe0.nd
 refine ⟨_, (Qac (Qaj (i := 2) nd rfl (Or.inr rfl) Qkh)
  (Qac (Qaj (i := 3) nd rfl (Or.inr rfl) Qaf)
  (Qac (Qcf [0, 1, 2] (i := 4) nd rfl (Or.inl rfl) rfl (LcOk.free ["rows", "levels", "firms"] rfl rfl (List.forall_mem_cons.mpr ⟨rfl, (List.forall_mem_cons.mpr ⟨rfl, (List.forall_mem_cons.mpr ⟨rfl, (fun _ h => nomatch h)⟩)⟩)⟩) (by decide+kernel) rfl (by decide+kernel) rfl (by decide+kernel) (show (["firm", "firms", "rows", "levels"] : List Str).Nodup from by decide+kernel) (List.forall_mem_cons.mpr ⟨⟨_, rfl, rfl, rfl, by decide+kernel⟩, (List.forall_mem_cons.mpr ⟨⟨_, rfl, rfl, rfl, by decide+kernel⟩, (List.forall_mem_cons.mpr ⟨⟨_, rfl, rfl, rfl, by decide+kernel⟩, (fun _ h => nomatch h)⟩)⟩)⟩)) (Qas (pv 0)) (fun C s2 H2 fp xe => (Qfb (Qak Gbc0 (hr.mono (by decide)) rfl mbc0 kbc0 bbc0 Paired.nil pass0 (Qaa (pv 1) (Qaa (pv 2) (Qaa (pv 0) (Qaa (pv 3) Qad))))))) (fun C s2 H2 fp xe => (pv 0)))
  (Qac (Qgs PassesOwn.never (Qao (Qdn hr) (pv 4) (Qba Qad) (nomark _)) (Qac (Qa9 (Qc0 PySem.F.plainAttrs_dict PySem.F.slot_dict_update PySem.F.type_dict_update Qis (pv 2) (Qaa (Qbt (Qfj rfl) rfl z_dict Qnr (Qaa (Qdl [3] rfl (LcOk.free ["level"] rfl rfl (List.forall_mem_cons.mpr ⟨rfl, (fun _ h => nomatch h)⟩) (by decide+kernel) rfl (by decide+kernel) rfl (by decide+kernel) (show (["firm", "level"] : List Str).Nodup from by decide+kernel) (List.forall_mem_cons.mpr ⟨⟨_, rfl, rfl, rfl, by decide+kernel⟩, (fun _ h => nomatch h)⟩)) (Qas (pv 4)) (fun C s2 H2 fp xe => (Qbp (Qaa (pv 0) (Qaa (pv 1) Qad))))) Qad)) Qad)))
  (Qac (Qaj (i := 3) nd rfl (Or.inr rfl) (Qal Qa2 (pv 3) Qaf))
  (Qac (Qcf [2] (i := 5) nd rfl (Or.inl rfl) rfl (LcOk.free ["levels"] rfl rfl (List.forall_mem_cons.mpr ⟨rfl, (fun _ h => nomatch h)⟩) (by decide+kernel) rfl (by decide+kernel) rfl (by decide+kernel) (show (["firm", "levels"] : List Str).Nodup from by decide+kernel) (List.forall_mem_cons.mpr ⟨⟨_, rfl, rfl, rfl, by decide+kernel⟩, (fun _ h => nomatch h)⟩)) (Qas (pv 0)) (fun C s2 H2 fp xe => (Qli (Qfc (Qm7 hr) (pv 0) (pv 1)))) (fun C s2 H2 fp xe => (pv 0)))
  (Qag (Qcf [0, 1, 2] (i := 4) nd rfl (Or.inl rfl) rfl (LcOk.free ["rows", "levels", "firms"] rfl rfl (List.forall_mem_cons.mpr ⟨rfl, (List.forall_mem_cons.mpr ⟨rfl, (List.forall_mem_cons.mpr ⟨rfl, (fun _ h => nomatch h)⟩)⟩)⟩) (by decide+kernel) rfl (by decide+kernel) rfl (by decide+kernel) (show (["firm", "firms", "rows", "levels"] : List Str).Nodup from by decide+kernel) (List.forall_mem_cons.mpr ⟨⟨_, rfl, rfl, rfl, by decide+kernel⟩, (List.forall_mem_cons.mpr ⟨⟨_, rfl, rfl, rfl, by decide+kernel⟩, (List.forall_mem_cons.mpr ⟨⟨_, rfl, rfl, rfl, by decide+kernel⟩, (fun _ h => nomatch h)⟩)⟩)⟩)) (Qas (pv 5)) (fun C s2 H2 fp xe => (Qfb (Qak Gbc0 (hr.mono (by decide)) rfl mbc0 kbc0 bbc0 Paired.nil pass0 (Qaa (pv 1) (Qaa (pv 2) (Qaa (pv 0) (Qaa (pv 3) Qad))))))) (fun C s2 H2 fp xe => (pv 0))))))))
  (Qag (Qaq (pv 2))))))), ?_⟩
 have hline : 10 ^ 6 ≤ sizeLine := by decide
 refine fun d hd0 => ?_
 have e1 := Qae (o := .dK []) hd0
 have hd1 : upd H d (.dK []) d = some (.dK []) := Qab
 generalize upd H d (.dK []) = H1 at e1 hd1 ⊢
 refine ⟨_, rfl, fl, rfl, ⟨_, SqL.of (e1 _ _ hfl)⟩, ?_⟩
 refine Qbe (xs := (fs).map V.str) (fun j ys H' => ys = (((fs).take j).filter (fun f => decide (lead fs R [] f))).map V.str ∧ Same H1 H') ⟨rfl, fun _ _ h => h⟩ (by rw [List.length_map]; omega) ?_ ?_ ?_
 ·rintro j ys H5 hj ⟨rfl, e5⟩
  refine ⟨SqL.of (e5 _ _ (e1 _ _ hfl)), ?_⟩
  rw [List.length_map]
  have h1 := List.length_filter_le (fun f => decide (lead fs R [] f)) ((fs).take j)
  rw [List.length_take] at h1
  omega
 ·rintro j x ys H5 hx ⟨rfl, e5⟩
  obtain ⟨f, hf, rfl⟩ := Qbq hx
  have e05 := e1.trans e5
  refine ⟨_, rfl, _, rfl, _, rfl, _, rfl, fl, l, d, fs, R, [], f, gs, es, rfl, e05 _ _ hfl, e05 _ _ hl, hR.same e05, hlen, e5 _ _ hd1, fun H6 e6 => ⟨_, rfl, ?_⟩⟩
  refine dec2 (fun h2 => ?_) (fun h2 => ?_)
  ·refine ⟨_, rfl, ?_, e5.trans e6⟩
   rw [Qat hf, List.filter_append, List.filter_cons_of_pos (by simpa using h2), List.map_append]
   rfl
  ·refine ⟨?_, e5.trans e6⟩
   rw [Qat hf, List.filter_append, List.filter_cons_of_neg (by simpa using h2)]
   simp
 rintro ys H5 ⟨rfl, e5⟩ fo hfo
 rw [List.length_map, List.take_length]
 have ef : fs.filter (fun f => decide (lead fs R [] f)) = fnd fs R [] := by
  unfold fnd
  refine List.filter_congr fun f _ => ?_
  simp
 rw [ef]
 have f2 := Qae (o := .lst ((fnd fs R []).map V.str)) hfo
 have hfo2 : upd H5 fo (.lst ((fnd fs R []).map V.str)) fo = some (.lst ((fnd fs R []).map V.str)) := Qab
 generalize upd H5 fo (.lst ((fnd fs R []).map V.str)) = H2 at f2 hfo2 ⊢
 have e12 := e5.trans f2
 have hd2 : H2 d = some (.dK (kd [])) := e12 _ _ hd1
 have L0 : LI fs R [] 0 := ⟨List.nodup_nil, (fun p hp => nomatch hp), (fun f k h => nomatch h), fun h => absurd h (by decide)⟩
 have E0 : Same H H2 := e1.trans e12
 clear hd1 e12 e5 f2 ef
 refine ⟨fun m σ H' => ∃ (o5 : Option V) (D : List (Str × Int)) (n : Nat) (fo : Addr), σ = [some (.ref fl), some (.ref l), some (.ref d), some (.int (n : Int)), some (.ref fo), o5] ∧ Same H H' ∧ H' d = some (.dK (kd D)) ∧ H' fo = some (.lst ((fnd fs R D).map V.str)) ∧ fo ≠ d ∧ LI fs R D n ∧ m = fs.length - D.length, ⟨_, _, [], 0, fo, rfl, E0, hd2, hfo2, Qmv hfo2 hd2 (by intro z; cases z), L0, rfl⟩, ?_⟩
 rintro m σ H3 ⟨o5, D, n, fo, rfl, E3, hd3, hfo3, nfd, LI3, rfl⟩
 have lD : D.length ≤ fs.length := by
  have := Qbx (D.map (·.1)) fs LI3.nd fun x hx => by
   obtain ⟨p, hp, rfl⟩ := List.mem_map.mp hx
   exact (LI3.sub p hp).1
  rw [List.length_map] at this
  exact this
 refine ⟨_, rfl, (by show 0 ≤ sizeLine; decide), fun em hem => ?_⟩
 have e4 := Qae (o := .lst []) hem
 have hem4 : upd H3 em (.lst []) em = some (.lst []) := Qab
 generalize upd H3 em (.lst []) = H4 at e4 hem4 ⊢
 have E4 := E3.trans e4
 have hd4 := e4 _ _ hd3
 have hfo4 := e4 _ _ hfo3
 refine ⟨fo, em, _, _, rfl, rfl, SqL.of hfo4, SqL.of hem4, ?_⟩
 cases hfd : fnd fs R D with
 | nil =>
   refine .inr ⟨⟨rfl, fun j x y h => nomatch h⟩, _, rfl, iteF ?_⟩
   exact ⟨_, rfl, q d D n _ E4 hd0 hd4 LI3 hfd⟩
 | cons g0 gr =>
   refine .inl ⟨by simp, _, rfl, iteT ?_⟩
   refine ⟨_, fun _ _ h => h, ?_⟩
   have lfd : (fnd fs R D).length ≤ fs.length := List.length_filter_le _ _
   have lnz : 1 ≤ (fnd fs R D).length := by rw [hfd]; simp
   refine ⟨_, rfl, .inr (.inr (.inl ⟨rfl, .inl ⟨_, hd4⟩⟩)), ?_⟩
   refine ⟨_, rfl, fo, rfl, ⟨_, SqL.of hfo4⟩, ?_⟩
   refine Qb8 (xs := (fnd fs R D).map V.str) (fun j ys H' => ∃ T : List (Addr × Str), ys = T.map (fun z => V.ref z.1) ∧ T.map (·.2) = (fnd fs R D).take j ∧ (∀ z ∈ T, H' z.1 = some (.tup [.str z.2, .int (n : Int)])) ∧ Same H4 H') ⟨[], rfl, rfl, (fun z hz => nomatch hz), fun _ _ h => h⟩ (by rw [List.length_map]; omega) ?_ ?_ ?_
   ·rintro j ys H5 hj ⟨T, rfl, hT, _, e5⟩
    refine ⟨SqL.of (e5 _ _ hfo4), ?_⟩
    have := congrArg List.length hT
    rw [List.length_map, List.length_take] at this
    rw [List.length_map] at hj ⊢
    omega
   ·rintro j x ys H5 hx ⟨T, rfl, hT, hTt, e5⟩
    obtain ⟨f, hf, rfl⟩ := Qbq hx
    refine ⟨_, rfl, _, rfl, (by show 2 ≤ sizeLine; decide), fun y hy => ?_⟩
    have s1 := Qae (o := .tup [.str f, .int (n : Int)]) hy
    refine ⟨T ++ [(y, f)], by rw [List.map_append]; rfl, by rw [List.map_append, hT, Qat hf]; rfl, fun z hz => ?_, e5.trans s1⟩
    rcases List.mem_append.mp hz with c | c
    ·exact s1 _ _ (hTt z c)
    ·rw [List.mem_singleton.mp c]
     exact Qab
   rintro ys H5 ⟨T, rfl, hT, hTt, e5⟩ tl htl
   rw [List.length_map, List.take_length] at hT
   have e6 := Qae (o := .lst (T.map fun z => V.ref z.1)) htl
   have htl6 : upd H5 tl (.lst (T.map fun z => V.ref z.1)) tl = some (.lst (T.map fun z => V.ref z.1)) := Qab
   generalize upd H5 tl (.lst (T.map fun z => V.ref z.1)) = H6 at e6 htl6 ⊢
   have lT : T.length = (fnd fs R D).length := by
    rw [← hT, List.length_map]
   refine ⟨tl, T.map (fun z => (z.1, Sum.inr z.2, V.int (n : Int))), rfl, (by rw [List.map_map]; exact htl6), (by rw [List.length_map]; omega), (fun z hz => by obtain ⟨w, hw, rfl⟩ := List.mem_map.mp hz; exact e6 _ _ (hTt w hw)), fun dd hdd => ?_⟩
   have eps : (T.map (fun z => (z.1, (Sum.inr z.2 : Key), V.int (n : Int)))).map (·.2) = kd ((fnd fs R D).map fun f => (f, (n : Int))) := by
    unfold kd
    rw [← hT, List.map_map, List.map_map, List.map_map]
    rfl
   have LI4 := LI3.next hfn
   have nd4 := kd_nd LI4.nd
   rw [Qls, List.map_append] at nd4
   have nd5 : ((kd ((fnd fs R D).map fun f => (f, (n : Int)))).map (·.1)).Nodup := (List.nodup_append.mp nd4).2.1
   rw [eps, Qdb (kvs := []) (by rw [List.nil_append]; exact nd5), List.nil_append]
   have e7 := Qae (o := .dK (kd ((fnd fs R D).map fun f => (f, (n : Int))))) hdd
   have hdd7 : upd H6 dd (.dK (kd ((fnd fs R D).map fun f => (f, (n : Int))))) dd = some (.dK (kd ((fnd fs R D).map fun f => (f, (n : Int))))) := Qab
   generalize upd H6 dd (.dK (kd ((fnd fs R D).map fun f => (f, (n : Int))))) = H7 at e7 hdd7 ⊢
   have e47 := (e5.trans e6).trans e7
   have hd7 := e47 _ _ hd4
   have ndd : d ≠ dd := Qai (e6 _ _ (e5 _ _ hd4)) hdd
   refine ⟨d, dd, _, _, rfl, rfl, ndd, hd7, hdd7, (by rw [Qlr, Qlr, List.length_map]; omega), ?_⟩
   rw [Qdb (by rw [List.map_append]; exact nd4), ← Qls]
   have E8 : Same H (upd H7 d (.dK (kd (D ++ (fnd fs R D).map fun f => (f, (n : Int)))))) := Qbb (E4.trans e47) hd0
   have hd8 : upd H7 d (.dK (kd (D ++ (fnd fs R D).map fun f => (f, (n : Int))))) d = some (.dK (kd (D ++ (fnd fs R D).map fun f => (f, (n : Int))))) := Qab
   generalize upd H7 d (.dK (kd (D ++ (fnd fs R D).map fun f => (f, (n : Int))))) = H8 at E8 hd8 ⊢
   obtain ⟨D', hD'⟩ : ∃ D', D' = D ++ (fnd fs R D).map fun f => (f, (n : Int)) := ⟨_, rfl⟩
   have lD' : D'.length = D.length + (fnd fs R D).length := by rw [hD', List.length_append, List.length_map]
   rw [← hD'] at hd8 LI4
   have lD2 : D'.length ≤ fs.length := by
    have := Qbx (D'.map (·.1)) fs LI4.nd fun x hx => by
     obtain ⟨p, hp, rfl⟩ := List.mem_map.mp hx
     exact (LI4.sub p hp).1
    rw [List.length_map] at this
    exact this
   refine ⟨_, rfl, _, _, rfl, rfl, ?_⟩
   refine ⟨_, rfl, fl, rfl, ⟨_, SqL.of (E8 _ _ hfl)⟩, ?_⟩
   refine Qbe (xs := fs.map V.str) (fun j ys H' => ys = ((fs.take j).filter (fun f => decide (f ∉ D'.map (·.1)))).map V.str ∧ H' = H8) ⟨rfl, rfl⟩ (by rw [List.length_map]; omega) ?_ ?_ ?_
   ·rintro j ys H9 hj ⟨rfl, rfl⟩
    refine ⟨SqL.of (E8 _ _ hfl), ?_⟩
    rw [List.length_map]
    have h1 := List.length_filter_le (fun f => decide (f ∉ D'.map (·.1))) (fs.take j)
    rw [List.length_take] at h1
    omega
   ·rintro j x ys H9 hx ⟨rfl, rfl⟩
    obtain ⟨f, hf, rfl⟩ := Qbq hx
    refine ⟨_, rfl, _, rfl, d, _, rfl, DGet.k (k := Sum.inr f) hd8, _, rfl, ?_⟩
    have hv : (valV (kd D') (Sum.inr f)).isSome = decide (f ∈ D'.map (·.1)) := by
     rw [Qi2, Option.isSome_map, Bool.eq_iff_iff, Qmx, decide_eq_true_eq]
    rw [hv]
    refine ndec2 (fun h2 => ?_) (fun h2 => ?_)
    ·refine ⟨_, rfl, ?_, rfl⟩
     rw [Qat hf, List.filter_append, List.filter_cons_of_pos (by simpa using h2), List.map_append]
     rfl
    ·refine ⟨?_, rfl⟩
     rw [Qat hf, List.filter_append, List.filter_cons_of_neg (by simpa using h2)]
     simp
   rintro ys H9 ⟨rfl, rfl⟩ wa hwa
   rw [List.length_map, List.take_length]
   obtain ⟨W, hW⟩ : ∃ W, W = fs.filter (fun f => decide (f ∉ D'.map (·.1))) := ⟨_, rfl⟩
   rw [← hW]
   have lW : W.length ≤ fs.length := by rw [hW]; exact List.length_filter_le _ _
   have eA := Qae (o := .lst (W.map V.str)) hwa
   have hwaA : upd H9 wa (.lst (W.map V.str)) wa = some (.lst (W.map V.str)) := Qab
   generalize upd H9 wa (.lst (W.map V.str)) = HA at eA hwaA ⊢
   have EA := E8.trans eA
   have hdA := eA _ _ hd8
   refine ⟨_, rfl, wa, rfl, ⟨_, SqL.of hwaA⟩, ?_⟩
   refine Qbe (xs := (W).map V.str) (fun j ys H' => ys = (((W).take j).filter (fun f => decide (lead fs R D' f))).map V.str ∧ Same HA H') ⟨rfl, fun _ _ h => h⟩ (by rw [List.length_map]; omega) ?_ ?_ ?_
   ·rintro j ys H5 hj ⟨rfl, e5⟩
    refine ⟨SqL.of (e5 _ _ hwaA), ?_⟩
    rw [List.length_map]
    have h1 := List.length_filter_le (fun f => decide (lead fs R D' f)) ((W).take j)
    rw [List.length_take] at h1
    omega
   ·rintro j x ys H5 hx ⟨rfl, e5⟩
    obtain ⟨f, hf, rfl⟩ := Qbq hx
    have e05 := EA.trans e5
    refine ⟨_, rfl, _, rfl, _, rfl, _, rfl, fl, l, d, fs, R, D', f, gs, es, rfl, e05 _ _ hfl, e05 _ _ hl, hR.same e05, hlen, e5 _ _ hdA, fun H6 e6 => ⟨_, rfl, ?_⟩⟩
    refine dec2 (fun h2 => ?_) (fun h2 => ?_)
    ·refine ⟨_, rfl, ?_, e5.trans e6⟩
     rw [Qat hf, List.filter_append, List.filter_cons_of_pos (by simpa using h2), List.map_append]
     rfl
    ·refine ⟨?_, e5.trans e6⟩
     rw [Qat hf, List.filter_append, List.filter_cons_of_neg (by simpa using h2)]
     simp
   rintro ys HB ⟨rfl, eB⟩ f2 hf2
   rw [List.length_map, List.take_length]
   have ef : W.filter (fun f => decide (lead fs R D' f)) = fnd fs R D' := by
    rw [hW, List.filter_filter]
    unfold fnd
    refine List.filter_congr fun f _ => ?_
    exact Bool.and_comm _ _
   rw [ef]
   have eC := Qae (o := .lst ((fnd fs R D').map V.str)) hf2
   have hf2C : upd HB f2 (.lst ((fnd fs R D').map V.str)) f2 = some (.lst ((fnd fs R D').map V.str)) := Qab
   generalize upd HB f2 (.lst ((fnd fs R D').map V.str)) = HC at eC hf2C ⊢
   have hdC := (eB.trans eC) _ _ hdA
   have hNL : ((n : Int) + 1) = ((n + 1 : Nat) : Int) := by omega
   dsimp only
   rw [hNL]
   exact ⟨_, (by omega), _, D', n + 1, f2, rfl, EA.trans (eB.trans eC), hdC, hf2C, Qmv hf2C hdC (by intro z; cases z), LI4, rfl⟩
theorem LI.len {fs : List Str} {R : List Rw} {D : List (Str × Int)} {n : Nat} (L : LI fs R D n) : D.length ≤ fs.length := by
 have := Qbx (D.map (·.1)) fs L.nd fun x hx => by
  obtain ⟨p, hp, rfl⟩ := List.mem_map.mp hx
  exact (L.sub p hp).1
 rw [List.length_map] at this
 exact this
def ringL (fs : List Str) (D : List (Str × Int)) : List Str := fs.filter fun f => decide (f ∉ D.map (·.1))
theorem Qe8 {fs : List Str} {D : List (Str × Int)} {x : Str} : x ∈ ringL fs D ↔ x ∈ fs ∧ x ∉ D.map (·.1) := by
 unfold ringL
 rw [List.mem_filter, decide_eq_true_eq]
def spRing : Sp := fun vs H Q _ => ∃ (fl l : Addr) (fs : List Str) (R : List Rw) (gs es : List Str), vs = [.ref fl, .ref l] ∧ H fl = some (.lst (fs.map V.str)) ∧ fs.Nodup ∧ fs.length ≤ 8 ∧ H l = some (.lst (rfw R)) ∧ RX H gs es R ∧ R.length ≤ 62 ∧
 ∀ (p : Addr) (zs : List Str) (D : List (Str × Int)) (n : Nat) H', Same H H' → H p = none → H' p = some (.lst (zs.map V.str)) → LI fs R D n → fnd fs R D = [] → zs.Perm (ringL fs D) → zs.Pairwise (fun a b => ltS a b = true) → Q (.ref p) H'
theorem scbk0 : FnScope ["firms", "rows", "levels"] ["firms", "rows"] (defScope sbk0) := fsc
theorem okbk0 (D : Def K mg "ring_of" sbk0 .none) (cbe0 : Cal P w K mg base CX0 true 3 "levels_of" ["firms", "rows"] [] spLev) (z_sorted : mg "sorted" = none) : Cal P w K mg base CX0 true 4 "ring_of" ["firms", "rows"] [] spRing := by
 obtain ⟨f, fd, F, hm⟩ := D
 obtain ⟨fbe0, fdbe0, dbe0, Gbe0, mbe0, kbe0, bbe0, vbe0, bbe01⟩ := cbe0
 refine ⟨f, fd, _, F.ok scbk0 (fun vs H Q E h => ?_) (fun cdv A outer s H vs Q E hr h => ?_), hm, F.kp, (F.b2), .nil, F.b2⟩
 ·obtain ⟨fl, l, fs, R, gs, es, rfl, hfl, hfn, hf8, hl, hR, hlen, q⟩ := h
  rfl
 obtain ⟨fl, l, fs, R, gs, es, rfl, hfl, hfn, hf8, hl, hR, hlen, q⟩ := h
 have nd := scbk0.nd
 refine ⟨_, (Qac (Qaj (i := 2) nd rfl (Or.inr rfl) (Qak Gbe0 (hr.mono (by decide)) rfl mbe0 kbe0 bbe0 Paired.nil pass0 (Qaa (pv 0) (Qaa (pv 1) Qad))))
  (Qag (Qaq (Qan Qdk rfl z_sorted Qfl (Qaa (Qcz [2] rfl (LcOk.free ["levels"] rfl rfl (List.forall_mem_cons.mpr ⟨rfl, (fun _ h => nomatch h)⟩) (by decide+kernel) rfl (by decide+kernel) rfl (by decide+kernel) (show (["firm", "levels"] : List Str).Nodup from by decide+kernel) (List.forall_mem_cons.mpr ⟨⟨_, rfl, rfl, rfl, by decide+kernel⟩, (fun _ h => nomatch h)⟩)) (Qas (pv 0)) (fun C s2 H2 fp xe => (Qli (Qfc (Qm7 hr) (pv 0) (pv 1)))) (fun C s2 H2 fp xe => (pv 0))) Qad))))), ?_⟩
 have hline : 10 ^ 6 ≤ sizeLine := by decide
 refine ⟨_, rfl, _, rfl, fl, l, fs, R, gs, es, rfl, hfl, hfn, hf8, hl, hR, hlen, fun d D n H1 e1 hd0 hd LI1 hf1 => ?_⟩
 refine ⟨_, rfl, fl, rfl, ⟨_, SqL.of (e1 _ _ hfl)⟩, ?_⟩
 refine Qbe (xs := fs.map V.str) (fun j ys H' => ys = ((fs.take j).filter (fun f => decide (f ∉ D.map (·.1)))).map V.str ∧ H' = H1) ⟨rfl, rfl⟩ (by rw [List.length_map]; omega) ?_ ?_ ?_
 ·rintro j ys H9 hj ⟨rfl, rfl⟩
  refine ⟨SqL.of (e1 _ _ hfl), ?_⟩
  rw [List.length_map]
  have h1 := List.length_filter_le (fun f => decide (f ∉ D.map (·.1))) (fs.take j)
  rw [List.length_take] at h1
  omega
 ·rintro j x ys H9 hx ⟨rfl, rfl⟩
  obtain ⟨f, hf, rfl⟩ := Qbq hx
  refine ⟨_, rfl, _, rfl, d, _, rfl, DGet.k (k := Sum.inr f) hd, _, rfl, ?_⟩
  have hv : (valV (kd D) (Sum.inr f)).isSome = decide (f ∈ D.map (·.1)) := by
   rw [Qi2, Option.isSome_map, Bool.eq_iff_iff, Qmx, decide_eq_true_eq]
  rw [hv]
  refine ndec2 (fun h2 => ?_) (fun h2 => ?_)
  ·refine ⟨_, rfl, ?_, rfl⟩
   rw [Qat hf, List.filter_append, List.filter_cons_of_pos (by simpa using h2), List.map_append]
   rfl
  ·refine ⟨?_, rfl⟩
   rw [Qat hf, List.filter_append, List.filter_cons_of_neg (by simpa using h2)]
   simp
 rintro ys H9 ⟨rfl, rfl⟩ k1 hk1
 rw [List.length_map, List.take_length]
 have lr : (ringL fs D).length ≤ fs.length := List.length_filter_le _ _
 have s1 := Qae (o := .lst ((ringL fs D).map V.str)) hk1
 refine ⟨k1, ringL fs D, rfl, SqL.of Qab, by omega, hfn.filter _, fun p zs hp pm pw => ?_⟩
 exact q p zs D n _ ((e1.trans s1).trans (Qae hp)) ((e1.trans s1).free hp) Qab LI1 hf1 pm pw
theorem Qim {X : Cx} {scope : Scope} {cl : List (Str × Addr)} {C : Addr} {s2 : Shared} {H2 : Hp} {fp : List Addr} {N' : List Str} {xe : Q0} : OpR (X.inC scope cl C s2 H2 fp N' xe) (binaryOp .Add) rCat := Qdh (X := X.inC scope cl C s2 H2 fp N' xe)
theorem cutD {xs : List V} {t : Nat} (h : t ≤ xs.length) : cutV xs (some (t : Int)) none = xs.drop t := by
 rw [Qg8, Nat.min_eq_left h]
theorem cutT {xs : List V} {t : Nat} (h : t ≤ xs.length) : cutV xs none (some (t : Int)) = xs.take t := by
 rw [Qds, Nat.min_eq_left h]
abbrev Lz := Addr × List Int
def rfz (Z : List Lz) : List V := Z.map fun z => .ref z.1
theorem Qbg (Z : List Lz) : (rfz Z).length = Z.length := List.length_map ..
theorem Qcy (A B : List Lz) : rfz (A ++ B) = rfz A ++ rfz B := List.map_append ..
theorem Qe9 {Z : List Lz} {i : Nat} {x : V} (h : (rfz Z)[i]? = some x) : ∃ z, Z[i]? = some z ∧ x = .ref z.1 := by
 unfold rfz at h
 rw [List.getElem?_map] at h
 cases e : Z[i]? with
 | none => rw [e] at h; cases h
 | some z => rw [e] at h; exact ⟨z, rfl, (Option.some.inj h).symm⟩
theorem at_rfz {Z : List Lz} {i : Nat} {z : Lz} (h : Z[i]? = some z) : (rfz Z)[i]? = some (.ref z.1) := by
 unfold rfz
 rw [List.getElem?_map, h]
 rfl
def LL (H : Hp) (Z : List Lz) : Prop := ∀ z ∈ Z, H z.1 = some (.lst (z.2.map V.int))
theorem LL.same {H H' : Hp} {Z : List Lz} (h : LL H Z) (e : Same H H') : LL H' Z := fun z hz => e _ _ (h z hz)
theorem LL.app {H : Hp} {A B : List Lz} (h1 : LL H A) (h2 : LL H B) : LL H (A ++ B) := fun z hz => (List.mem_append.mp hz).elim (h1 z) (h2 z)
abbrev rws (Z : List Lz) : List (List Int) := Z.map (·.2)
theorem Qgo {Z : List Lz} {i : Nat} {z : Lz} (h : Z[i]? = some z) : (rws Z).getD i [] = z.2 := by
 rw [List.getD_eq_getElem?_getD, List.getElem?_map, h]
 rfl
theorem Qcx (A B : List Lz) : rws (A ++ B) = rws A ++ rws B := List.map_append ..
theorem Qcu {α : Type} {l : List α} {i : Nat} {x : α} (h : l[i]? = some x) : l.take (i + 1) = l.take i ++ [x] := by
 rw [List.take_succ, h]
 rfl
theorem atInt {r : List Int} {j : Nat} (h : j < r.length) : atI (r.map V.int) (j : Int) = some (.int (N45.gt r j)) := Qce (by rw [List.getElem?_map, N45.Qdf h]; rfl)
theorem Qa0 (H : Hp) : Same H H := fun _ _ h => h
theorem Qeb {σ0 : St} (h : σ0.length = 2) : ∃ u v, σ0 = [u, v] := by
 rcases σ0 with _ | ⟨u, _ | ⟨v, _ | ⟨w, r⟩⟩⟩ <;> simp at h
 exact ⟨u, v, rfl⟩
theorem gL_bt {r : List Int} {n : Nat} (h : N45.gL 0 r ≠ 0) (hb : ∀ x ∈ r, N45.Bt n x) : (N45.gL 0 r).natAbs < 2 ^ n := by
 obtain ⟨x, hx, h0⟩ : ∃ x ∈ r, x ≠ 0 := by
  refine Classical.byContradiction fun c => h ?_
  have := N45.Qjh r 0 0 (Int.dvd_refl 0) fun x hx => by
   have : x = 0 := Classical.byContradiction fun d => c ⟨x, hx, d⟩
   rw [this]
   exact Int.dvd_refl 0
  exact Int.zero_dvd.mp this
 have d := Int.natAbs_dvd_natAbs.mpr ((N45.Qeg r 0).2 x hx)
 exact Nat.lt_of_le_of_lt (Nat.le_of_dvd (by omega) d) (hb x hx)
theorem Qe2 {H H' : Hp} {x : Addr} {o : HO} (hx0 : H x = none) (keep : ∀ y o', upd H x o y = some o' → y ≠ x → H' y = some o') : Same H (fun b => if b = x then none else H' b) := fun b o' hb => by
 have n := Qai hb hx0
 show (if b = x then none else H' b) = some o'
 rw [if_neg n]
 exact keep b o' (by rw [Qah n]; exact hb) n
def spOnly : Sp := fun vs H Q _ => ∃ (m k : Nat) (x : Int), vs = [.int m, .int k, .int x] ∧ m ≤ 100 ∧ ∀ p, H p = none → Q (.ref p) (upd H p (.lst ((N45.uni m k x).map V.int)))
def spWid : Sp := fun vs H Q _ => ∃ (a : Addr) (Z : List Lz), vs = [.ref a] ∧ H a = some (.lst (rfz Z)) ∧ LL H Z ∧ Z.length ≤ 6 ∧ (∀ z ∈ Z, z.2.length ≤ 100) ∧ ∀ (p : Addr) (Y : List Lz) H', Same H H' → H' p = some (.lst (rfz Y)) → LL H' Y → rws Y = N45.wid (rws Z) → Q (.ref p) H'
def spLean : Sp := fun vs H Q _ => ∃ (a : Addr) (r : List Int), vs = [.ref a] ∧ H a = some (.lst (r.map V.int)) ∧ r.length ≤ 100 ∧ N45.gL 0 r ≠ 0 ∧ (∀ x ∈ r, N45.Bt 4000 x) ∧ ∀ p, H p = none → Q (.ref p) (upd H p (.lst ((N45.leanF r).map V.int)))
def spClr : Sp := fun vs H Q _ => ∃ (a b : Addr) (n y : List Int) (p e : Nat), vs = [.ref a, .ref b, .int p] ∧ H a = some (.lst (n.map V.int)) ∧ H b = some (.lst (y.map V.int)) ∧ n.length = y.length ∧ n.length ≤ 100 ∧ p < n.length ∧ N45.gL 0 (N45.crude n y p) ≠ 0 ∧ (∀ x ∈ n, N45.Bt e x) ∧ (∀ x ∈ y, N45.Bt e x) ∧ e ≤ 1990 ∧
 ∀ q H', Same H H' → H' q = some (.lst ((N45.clr n y p).map V.int)) → Q (.ref q) H'
def spFw : Sp := fun vs H Q _ => ∃ (a : Addr) (Z : List Lz) (p : Nat), vs = [.ref a, .int p] ∧ H a = some (.lst (rfz Z)) ∧ LL H Z ∧ (∀ z ∈ Z, p < z.2.length) ∧ (N45.fw (rws Z) p = none → ∀ H', Same H H' → Q .non H') ∧ ∀ i, N45.fw (rws Z) p = some i → ∀ H', Same H H' → Q (.int (i : Int)) H'
def Sqr (Z : List Lz) (E : Nat) : Prop := N45.Squ (rws Z) E ∧ Z.length ≤ 6 ∧ N45.ex E Z.length ≤ 1990
def spTurn : Sp := fun vs H Q _ => ∃ (a : Addr) (Z : List Lz) (E : Nat), vs = [.ref a] ∧ H a = some (.lst (rfz Z)) ∧ LL H Z ∧ Sqr Z E ∧ ∀ (t la lb : Addr) (A B : List Lz) H', Same H H' → H' t = some (.tup [.ref la, .ref lb]) → H' la = some (.lst (rfz A)) → H' lb = some (.lst (rfz B)) → LL H' A → LL H' B → (rws A, rws B) = N45.trn (rws Z) Z.length → Q (.ref t) H'
def sgp (r : List Int) (k : Nat) : Int := if 0 < N45.gt r k then 1 else -1
def prF (r : List Int) (k m : Nat) : Int × List Int := (sgp r k * N45.gt r k, (r.drop m).map fun x => sgp r k * x)
def spPair : Sp := fun vs H Q _ => ∃ (a : Addr) (r : List Int) (k m : Nat), vs = [.ref a, .int k, .int m] ∧ H a = some (.lst (r.map V.int)) ∧ k < r.length ∧ m ≤ r.length ∧ r.length ≤ 100 ∧ (∀ x ∈ r, N45.Bt 1990 x) ∧ ∀ t q H', Same H H' → H q = none → H t = none → H' t = some (.tup [.int (prF r k m).1, .ref q]) → H' q = some (.lst ((prF r k m).2.map V.int)) → Q (.ref t) H'
abbrev Pr := Addr × Int × Addr × List Int
def rfp (Y : List Pr) : List V := Y.map fun y => .ref y.1
theorem Qen (Y : List Pr) : (rfp Y).length = Y.length := List.length_map ..
theorem Qmj (A B : List Pr) : rfp (A ++ B) = rfp A ++ rfp B := List.map_append ..
theorem Qlg {Z : List Pr} {i : Nat} {x : V} (h : (rfp Z)[i]? = some x) : ∃ z, Z[i]? = some z ∧ x = .ref z.1 := by
 unfold rfp at h
 rw [List.getElem?_map] at h
 cases e : Z[i]? with
 | none => rw [e] at h; cases h
 | some z => rw [e] at h; exact ⟨z, rfl, (Option.some.inj h).symm⟩
def PP (H : Hp) (Y : List Pr) : Prop := ∀ y ∈ Y, H y.1 = some (.tup [.int y.2.1, .ref y.2.2.1]) ∧ H y.2.2.1 = some (.lst (y.2.2.2.map V.int))
theorem PP.same {H H' : Hp} {Y : List Pr} (h : PP H Y) (e : Same H H') : PP H' Y := fun z hz => ⟨e _ _ (h z hz).1, e _ _ (h z hz).2⟩
abbrev prs (Y : List Pr) : List (Int × List Int) := Y.map fun y => (y.2.1, y.2.2.2)
theorem Qmm (A B : List Pr) : prs (A ++ B) = prs A ++ prs B := List.map_append ..
def pap (S : List (List Int)) : List (Int × List Int) := (List.range S.length).map fun k => prF ((N45.trn S S.length).1.getD k []) k S.length
def spPapN : Sp := fun vs H Q _ => ∃ (a : Addr) (Z : List Lz) (E : Nat), vs = [.ref a] ∧ H a = some (.lst (rfz Z)) ∧ LL H Z ∧ Sqr Z E ∧ (N45.trn (rws Z) Z.length).2 = [] ∧
 ∀ (t : Addr) (Y : List Pr) H', Same H H' → H' t = some (.lst (rfp Y)) → PP H' Y → prs Y = pap (rws Z) → H t = none → (∀ y ∈ Y, H y.2.2.1 = none ∧ H y.1 = none) → Q (.ref t) H'
def spG : Sp := fun vs H Q _ => ∃ a b : Int, vs = [.int a, .int b] ∧ Q (.int (N11.gF a b)) H
theorem scaw0 : FnScope ["one", "other", "rest"] ["one", "other"] (defScope saw0) := fsc
theorem okaw0 (D : Def K mg "divisor" saw0 .none) (z_abs : mg "abs" = none) : Cal P w K mg base CX0 cm 1 "divisor" ["one", "other"] [] spG := by
 obtain ⟨f, fd, F, hm⟩ := D
 refine ⟨f, fd, _, F.ok scaw0 (fun vs H Q E h => ?_) (fun cdv A outer s H vs Q E hr h => ?_), hm, F.kp, (F.b2), .nil, F.b2⟩
 ·obtain ⟨a, b, rfl, q⟩ := h
  rfl
 obtain ⟨a, b, rfl, q⟩ := h
 have nd := scaw0.nd
 refine ⟨_, (Qac (Qaj (i := 0) nd rfl (Or.inl rfl) (Qan Qfk rfl z_abs Ql5 (Qaa (pv 0) Qad)))
  (Qac (Qaj (i := 1) nd rfl (Or.inl rfl) (Qan Qfk rfl z_abs Ql5 (Qaa (pv 1) Qad)))
  (Qac (Qgs PassesOwn.never (Qao Qik (pv 1) Qaf (nomark _)) (Qac (Qaj (i := 2) nd rfl (Or.inl rfl) (Qal Qau (pv 0) (pv 1)))
  (Qac (Qaj (i := 0) nd rfl (Or.inl rfl) (pv 1))
  (Qag (Qaj (i := 1) nd rfl (Or.inl rfl) (pv 2))))))
  (Qag (Qaq (pv 0)))))), ?_⟩
 refine ⟨_, rfl, a, rfl, ?_⟩
 refine ⟨_, rfl, b, rfl, ?_⟩
 refine Qjz (fun σ H' => ∃ (x y : Int) (r : Option V), σ = [some (.int x), some (.int y), r] ∧ H' = H ∧ 0 ≤ x ∧ 0 ≤ y ∧ N11.gF x y = N11.gF a b) (fun σ _ => match σ with | [_, some (.int y), _] => y.toNat | _ => 0)
  ⟨_, _, none, rfl, rfl, by omega, by omega, N11.Qm9 a b⟩ ?_ ?_
 ·rintro σ H1 ⟨x, y, r, rfl, rfl, hx, hy, hg⟩
  refine ⟨_, rfl, rfl, _, rfl, ?_⟩
  refine ndec2 (fun h => ?_) (fun h => ?_)
  ·have hy0 : 0 < y := by (have : y ≠ 0 := fun z => h (congrArg V.int z)); omega
   refine ⟨_, rfl, _, rfl, _, _, rfl, rfl, hy0, _, rfl, _, rfl, ⟨y, x % y, _, rfl, rfl, by omega, Int.emod_nonneg x (by omega), ?_⟩, ?_⟩
   ·rw [N11.Qm8 hx hy0]
    exact hg
   ·have := Int.emod_lt_of_pos x hy0
    have := Int.emod_nonneg x (show y ≠ 0 by omega)
    show (x % y).toNat < y.toNat
    omega
  ·have hy0 : y = 0 := by exact V.int.inj h
   subst hy0
   rw [← N11.g_end hg hx] at q
   exact ⟨_, rfl, q⟩
 ·intro σ H1 Q1 Q2 hq z
  obtain ⟨v, e, sc, k, e2, z⟩ := z
  exact ⟨v, e, sc, k, e2, hq _ _ z⟩
theorem scbf0 : FnScope ["many", "place", "number"] ["many", "place", "number"] (defScope sbf0) := fsc
theorem okbf0 (D : Def K mg "only_at" sbf0 .none) (z_range : mg "range" = none) : Cal P w K mg base CX0 true 1 "only_at" ["many", "place", "number"] [] spOnly := by
 obtain ⟨f, fd, F, hm⟩ := D
 refine ⟨f, fd, _, F.ok scbf0 (fun vs H Q E h => ?_) (fun cdv A outer s H vs Q E hr h => ?_), hm, F.kp, (F.b3), .nil, F.b3⟩
 ·obtain ⟨m, k, x, rfl, hm, q⟩ := h
  rfl
 obtain ⟨m, k, x, rfl, hm, q⟩ := h
 have nd := scbf0.nd
 refine ⟨_, (Qag (Qaq (Qdl [2, 1] rfl (LcOk.free ["place", "number"] rfl rfl (List.forall_mem_cons.mpr ⟨rfl, (List.forall_mem_cons.mpr ⟨rfl, (fun _ h => nomatch h)⟩)⟩) (by decide+kernel) rfl (by decide+kernel) rfl (by decide+kernel) (show (["at", "number", "place"] : List Str).Nodup from by decide+kernel) (List.forall_mem_cons.mpr ⟨⟨_, rfl, rfl, rfl, by decide+kernel⟩, (List.forall_mem_cons.mpr ⟨⟨_, rfl, rfl, rfl, by decide+kernel⟩, (fun _ h => nomatch h)⟩)⟩)) (Qa1 rfl z_range (Qaa (pv 0) Qad)) (fun C s2 H2 fp xe => (Qgw (Qao Qb4 (pv 0) (pv 2) (nomark _)) (pv 1) Qaf))))), ?_⟩
 have hline : 600 ≤ sizeLine := by decide
 refine ⟨_, rfl, _, rfl, by omega, by omega, ?_⟩
 refine Qdr (lo := 0) (fun i ys H' => ys = ((List.range i).map fun j => if j = k then x else 0).map V.int ∧ H' = H) ⟨rfl, rfl⟩ (by omega) ?_ ?_ ?_
 ·rintro i ys H' hi ⟨rfl, rfl⟩
  rw [List.length_map, List.length_map, List.length_range]
 ·rintro i ys H' hi ⟨rfl, rfl⟩
  refine ⟨_, rfl, _, rfl, rfl, _, rfl, ?_⟩
  refine dec2 (fun h => ?_) (fun h => ?_)
  ·have e : i = k := by have := V.int.inj h; omega
   refine ⟨_, rfl, ?_, rfl⟩
   rw [List.range_succ, List.map_append, List.map_append, e]
   simp
  ·have e : i ≠ k := fun w => h (congrArg V.int (by omega))
   refine ⟨?_, rfl⟩
   rw [List.range_succ, List.map_append, List.map_append]
   simp [e]
 rintro ys H' ⟨rfl, rfl⟩ p hp
 exact q p hp
theorem scbq0 : FnScope ["square", "many"] ["square"] (defScope sbq0) := fsc
theorem okbq0 (D : Def K mg "widened" sbq0 .none) (cbf0 : Cal P w K mg base CX0 true 1 "only_at" ["many", "place", "number"] [] spOnly) (z_len : mg "len" = none) (z_enumerate : mg "enumerate" = none) (z_list : mg "list" = none) : Cal P w K mg base CX0 true 2 "widened" ["square"] [] spWid := by
 obtain ⟨f, fd, F, hm⟩ := D
 obtain ⟨fbf0, fdbf0, dbf0, Gbf0, mbf0, kbf0, bbf0, vbf0, bbf01⟩ := cbf0
 refine ⟨f, fd, _, F.ok scbq0 (fun vs H Q E h => ?_) (fun cdv A outer s H vs Q E hr h => ?_), hm, F.kp, (F.b1), .nil, F.b1⟩
 ·obtain ⟨a, Z, rfl, ha, hZ, h6, hw, q⟩ := h
  rfl
 obtain ⟨a, Z, rfl, ha, hZ, h6, hw, q⟩ := h
 have nd := scbq0.nd
 refine ⟨_, (Qac (Qaj (i := 1) nd rfl (Or.inr rfl) (Qan Qam rfl z_len Qbn (Qaa (pv 0) Qad)))
  (Qag (Qaq (Qee (xs := ["place", "numbers"]) [1] rfl (LcOkT.free (xs := ["place", "numbers"]) ["many"] rfl rfl (List.forall_mem_cons.mpr ⟨rfl, (fun _ h => nomatch h)⟩) (by decide+kernel) rfl (by decide+kernel) (by decide+kernel) (by decide+kernel) (show (["place", "numbers", "many"] : List Str).Nodup from by decide+kernel) (List.forall_mem_cons.mpr ⟨⟨_, rfl, rfl, rfl, by decide+kernel⟩, (fun _ h => nomatch h)⟩)) (Qdw rfl z_enumerate (Qaa (pv 0) Qad)) (Qco rfl (LcOkT.free (xs := ["place", "numbers"]) ["many"] rfl rfl (List.forall_mem_cons.mpr ⟨rfl, (fun _ h => nomatch h)⟩) (by decide+kernel) rfl (by decide+kernel) (by decide+kernel) (by decide+kernel) (show (["place", "numbers", "many"] : List Str).Nodup from by decide+kernel) (List.forall_mem_cons.mpr ⟨⟨_, rfl, rfl, rfl, by decide+kernel⟩, (fun _ h => nomatch h)⟩))) (fun C s2 H2 fp xe => (Qal Qim (Qbt Qez rfl z_list Qcm (Qaa (pv 1) Qad)) (Qak Gbf0 (hr.mono (by decide)) rfl mbf0 kbf0 bbf0 Paired.nil pass0 (Qaa (pv 2) (Qaa (pv 0) (Qaa Qaf Qad)))))))))), ?_⟩
 have hline : 10 ^ 6 ≤ sizeLine := by decide
 refine ⟨_, rfl, a, _, rfl, .inl (SqL.of ha), ?_⟩
 rw [Qbg]
 refine ⟨_, rfl, a, rfl, ⟨_, SqL.of ha⟩, ?_⟩
 refine Qix (xs := rfz Z) (fun i ys H' => ∃ Y : List Lz, ys = rfz Y ∧ Same H H' ∧ LL H' Y ∧ rws Y = (List.range i).map fun k => (rws Z).getD k [] ++ N45.uni (rws Z).length k 1) ⟨[], rfl, Qa0 _, (fun z hz => nomatch hz), rfl⟩ (by rw [Qbg]; omega) ?_ ?_ ?_
 ·rintro i ys H' hi ⟨Y, rfl, e, _, hY⟩
  refine ⟨SqL.of (e _ _ ha), ?_⟩
  have := congrArg List.length hY
  rw [List.length_map, List.length_map, List.length_range] at this
  rw [Qbg]
  exact this
 ·rintro i x ys H' t hx ⟨Y, rfl, e, hY, hYv⟩ ht σ0 h0
  obtain ⟨z, hz, rfl⟩ := Qe9 hx
  obtain ⟨u, v, rfl⟩ := Qeb h0
  have et := Qae (o := .tup [.int (i : Int), .ref z.1]) ht
  have e1 := e.trans et
  refine ⟨t, _, rfl, SqT.of Qab, rfl, _, _, rfl, _, _, rfl, rfl, [_, _], rfl, rfl, ?_⟩
  have hz1 := e1 _ _ (hZ z (List.mem_of_getElem? hz))
  refine ⟨_, rfl, z.1, _, rfl, .inl (SqL.of hz1), fun p hp => ?_⟩
  have f1 := Qae (o := .lst (z.2.map V.int)) hp
  refine ⟨_, rfl, _, rfl, Z.length, i, 1, rfl, by omega, fun p2 hp2 => ?_⟩
  have f2 := Qae (o := .lst ((N45.uni Z.length i 1).map V.int)) hp2
  refine ⟨p, p2, _, _, rfl, rfl, f2 _ _ Qab, Qab, ?_, fun p3 hp3 => ?_⟩
  ·rw [List.length_map, List.length_map, N45.Qhr]
   have := hw z (List.mem_of_getElem? hz)
   omega
  have f3 := Qae (o := .lst (z.2.map V.int ++ (N45.uni Z.length i 1).map V.int)) hp3
  have f13 := et.trans ((f1.trans f2).trans f3)
  refine ⟨Y ++ [(p3, z.2 ++ N45.uni Z.length i 1)], by rw [Qcy]; rfl, e.trans f13, (hY.same f13).app fun y hy => ?_, ?_⟩
  ·rw [List.mem_singleton.mp hy, Qab, List.map_append]
  ·rw [List.range_succ, List.map_append, Qcx, hYv]
   refine congrArg _ ?_
   show [z.2 ++ N45.uni Z.length i 1] = [(rws Z).getD i [] ++ N45.uni (rws Z).length i 1]
   rw [Qgo hz, List.length_map]
 rintro ys H' ⟨Y, rfl, e, hY, hYv⟩ p hp
 have f := Qae (o := .lst (rfz Y)) hp
 refine q p Y _ (e.trans f) Qab (hY.same f) ?_
 rw [hYv, Qbg]
 unfold N45.wid
 rw [List.length_map]
theorem scbd0 : FnScope ["numbers", "shared", "number"] ["numbers"] (defScope sbd0) := fsc
theorem okbd0 (D : Def K mg "lean" sbd0 .none) (caw0 : Cal P w K mg base CX0 true 1 "divisor" ["one", "other"] [] spG) : Cal P w K mg base CX0 true 2 "lean" ["numbers"] [] spLean := by
 obtain ⟨f, fd, F, hm⟩ := D
 obtain ⟨faw0, fdaw0, daw0, Gaw0, maw0, kaw0, baw0, vaw0, baw01⟩ := caw0
 refine ⟨f, fd, _, F.ok scbd0 (fun vs H Q E h => ?_) (fun cdv A outer s H vs Q E hr h => ?_), hm, F.kp, (F.b1), .nil, F.b1⟩
 ·obtain ⟨a, r, rfl, ha, hl, h0, hb, q⟩ := h
  rfl
 obtain ⟨a, r, rfl, ha, hl, h0, hb, q⟩ := h
 have nd := scbd0.nd
 refine ⟨_, (Qac (Qaj (i := 1) nd rfl (Or.inr rfl) Qaf)
  (Qac (Qbh PassesOwn.never rfl (Qas (pv 0)) (Qar (i := 2) nd rfl (Or.inl rfl)) (Qag (Qaj (i := 1) nd rfl (Or.inr rfl) (Qak Gaw0 (hr.mono (by decide)) rfl maw0 kaw0 baw0 Paired.nil pass0 (Qaa (pv 1) (Qaa (pv 2) Qad))))))
  (Qag (Qaq (Qdl [1] rfl (LcOk.free ["shared"] rfl rfl (List.forall_mem_cons.mpr ⟨rfl, (fun _ h => nomatch h)⟩) (by decide+kernel) rfl (by decide+kernel) rfl (by decide+kernel) (show (["number", "shared"] : List Str).Nodup from by decide+kernel) (List.forall_mem_cons.mpr ⟨⟨_, rfl, rfl, rfl, by decide+kernel⟩, (fun _ h => nomatch h)⟩)) (Qas (pv 0)) (fun C s2 H2 fp xe => (Qal Qdo (pv 0) (pv 1)))))))), ?_⟩
 have hline : 600 ≤ sizeLine := by decide
 have lr : (r.map V.int).length = r.length := List.length_map ..
 refine ⟨_, rfl, a, rfl, ⟨_, SqL.of ha⟩, ?_⟩
 refine Qb2 (xs := r.map V.int) (fun i σ H' => ∃ (o : Option V), σ = [some (.ref a), some (.int (N45.gL 0 (r.take i))), o] ∧ H' = H) ⟨_, rfl, rfl⟩ ?_ ?_ ?_
 ·rintro i σ H' hi ⟨o, rfl, rfl⟩
  exact SqL.of ha
 ·rintro i x σ H' hx ⟨o, rfl, rfl⟩
  obtain ⟨w, hw, rfl⟩ := Qc3 hx
  refine ⟨_, rfl, _, rfl, _, _, rfl, some (.int w), ?_, rfl⟩
  rw [Qcu hw, N45.gL_app]
  rfl
 rintro σ H' ⟨o, rfl, rfl⟩
 rw [lr, List.take_length]
 refine ⟨_, rfl, a, rfl, ⟨_, SqL.of ha⟩, ?_⟩
 refine Qb8 (xs := r.map V.int) (fun i ys H2 => ys = ((r.take i).map fun x => x.fdiv (N45.gL 0 r)).map V.int ∧ H2 = H') ⟨rfl, rfl⟩ (by omega) ?_ ?_ ?_
 ·rintro i ys H2 hi ⟨rfl, rfl⟩
  refine ⟨SqL.of ha, ?_⟩
  rw [List.length_map, List.length_map, List.length_take]
  omega
 ·rintro i x ys H2 hx ⟨rfl, rfl⟩
  obtain ⟨w, hw, rfl⟩ := Qc3 hx
  refine ⟨_, rfl, _, rfl, _, _, rfl, rfl, logN h0 (gL_bt h0 hb) (Nat.le_refl _), ?_, rfl⟩
  rw [Qcu hw, List.map_append, List.map_append]
  rfl
 rintro ys H2 ⟨rfl, rfl⟩ p hp
 rw [lr, List.take_length]
 exact q p hp
theorem scav0 : FnScope ["numbers", "by", "place"] ["numbers", "by", "place"] (defScope sav0) := fsc
theorem okav0 (D : Def K mg "cleared" sav0 .none) (cbd0 : Cal P w K mg base CX0 true 2 "lean" ["numbers"] [] spLean) (z_zip : mg "zip" = none) : Cal P w K mg base CX0 true 3 "cleared" ["numbers", "by", "place"] [] spClr := by
 obtain ⟨f, fd, F, hm⟩ := D
 obtain ⟨fbd0, fdbd0, dbd0, Gbd0, mbd0, kbd0, bbd0, vbd0, bbd01⟩ := cbd0
 refine ⟨f, fd, _, F.ok scav0 (fun vs H Q E h => ?_) (fun cdv A outer s H vs Q E hr h => ?_), hm, F.kp, (F.b3), .nil, F.b3⟩
 ·obtain ⟨a, b, n, y, p, e, rfl, ha, hb, hl, h100, hp, hg, hn, hy, he, q⟩ := h
  rfl
 obtain ⟨a, b, n, y, p, e, rfl, ha, hb, hl, h100, hp, hg, hn, hy, he, q⟩ := h
 have nd := scav0.nd
 refine ⟨_, (Qag (Qaq (Qak Gbd0 (hr.mono (by decide)) rfl mbd0 kbd0 bbd0 Paired.nil pass0 (Qaa (Qee (xs := ["one", "other"]) [1, 2, 0] rfl (LcOkT.free (xs := ["one", "other"]) ["place", "numbers", "by"] rfl rfl (List.forall_mem_cons.mpr ⟨rfl, (List.forall_mem_cons.mpr ⟨rfl, (List.forall_mem_cons.mpr ⟨rfl, (fun _ h => nomatch h)⟩)⟩)⟩) (by decide+kernel) rfl (by decide+kernel) (by decide+kernel) (by decide+kernel) (show (["one", "other", "by", "place", "numbers"] : List Str).Nodup from by decide+kernel) (List.forall_mem_cons.mpr ⟨⟨_, rfl, rfl, rfl, by decide+kernel⟩, (List.forall_mem_cons.mpr ⟨⟨_, rfl, rfl, rfl, by decide+kernel⟩, (List.forall_mem_cons.mpr ⟨⟨_, rfl, rfl, rfl, by decide+kernel⟩, (fun _ h => nomatch h)⟩)⟩)⟩)) (Qlj rfl z_zip (Qaa (pv 0) (Qaa (pv 1) Qad))) (Qco rfl (LcOkT.free (xs := ["one", "other"]) ["place", "numbers", "by"] rfl rfl (List.forall_mem_cons.mpr ⟨rfl, (List.forall_mem_cons.mpr ⟨rfl, (List.forall_mem_cons.mpr ⟨rfl, (fun _ h => nomatch h)⟩)⟩)⟩) (by decide+kernel) rfl (by decide+kernel) (by decide+kernel) (by decide+kernel) (show (["one", "other", "by", "place", "numbers"] : List Str).Nodup from by decide+kernel) (List.forall_mem_cons.mpr ⟨⟨_, rfl, rfl, rfl, by decide+kernel⟩, (List.forall_mem_cons.mpr ⟨⟨_, rfl, rfl, rfl, by decide+kernel⟩, (List.forall_mem_cons.mpr ⟨⟨_, rfl, rfl, rfl, by decide+kernel⟩, (fun _ h => nomatch h)⟩)⟩)⟩))) (fun C s2 H2 fp xe => (Qal Qll (Qal Qaz (pv 0) (Qax Qa7 (pv 2) (pv 3) (fun _ _ => rfl))) (Qal Qaz (pv 1) (Qax Qa7 (pv 4) (pv 3) (fun _ _ => rfl)))))) Qad)))), ?_⟩
 have hline : 600 ≤ sizeLine := by decide
 have ln : (n.map V.int).length = n.length := List.length_map ..
 have ly : (y.map V.int).length = y.length := List.length_map ..
 have lc : (N45.crude n y p).length = n.length := N45.Qda p hl
 have hyp : p < y.length := by omega
 refine ⟨_, rfl, _, rfl, a, b, rfl, ⟨_, SqL.of ha⟩, ⟨_, SqL.of hb⟩, ?_⟩
 refine Qlo (xs := n.map V.int) (ys := y.map V.int) (fun i zs H' => zs = ((N45.crude n y p).take i).map V.int ∧ Same H H') ⟨rfl, Qa0 _⟩ (by omega) (by omega) ?_ ?_ ?_
 ·rintro i zs H' hi ⟨rfl, e⟩
  refine ⟨SqL.of (e _ _ ha), SqL.of (e _ _ hb), ?_⟩
  rw [List.length_map, List.length_take]
  omega
 ·rintro i x1 x2 zs H' t hx1 hx2 ⟨rfl, e1⟩ ht σ0 h0
  obtain ⟨w1, hw1, rfl⟩ := Qc3 hx1
  obtain ⟨w2, hw2, rfl⟩ := Qc3 hx2
  obtain ⟨u, v, rfl⟩ := Qeb h0
  have et := Qae (o := .tup [.int w1, .int w2]) ht
  have e2 := e1.trans et
  have b1 : N45.Bt e w1 := hn _ (List.mem_of_getElem? hw1)
  have b2 : N45.Bt e w2 := hy _ (List.mem_of_getElem? hw2)
  have hin : i < n.length := (List.getElem?_eq_some_iff.mp hw1).1
  refine ⟨t, _, rfl, SqT.of Qab, rfl, _, _, rfl, _, _, rfl, rfl, [_, _], rfl, rfl, ?_⟩
  refine ⟨_, rfl, _, rfl, _, rfl, .inl ⟨b, _, _, _, rfl, rfl, SqL.of (e2 _ _ hb), atInt hyp, ?_⟩⟩
  refine ⟨_, _, rfl, rfl, mulN b1 (N45.Qe0 hy p) (by omega) (by omega), ?_⟩
  refine ⟨_, rfl, _, rfl, _, rfl, .inl ⟨a, _, _, _, rfl, rfl, SqL.of (e2 _ _ ha), atInt hp, ?_⟩⟩
  refine ⟨_, _, rfl, rfl, mulN b2 (N45.Qe0 hn p) (by omega) (by omega), _, _, rfl, rfl, ?_, e2⟩
  have h1 : N45.gt n i = w1 := by
   have := N45.Qdf hin
   rw [hw1] at this
   exact (Option.some.inj this).symm
  have h2 : N45.gt y i = w2 := by
   have := N45.Qdf (r := y) (j := i) (by omega)
   rw [hw2] at this
   exact (Option.some.inj this).symm
  have hc : (N45.crude n y p)[i]? = some (w1 * N45.gt y p - w2 * N45.gt n p) := by
   rw [N45.Qdf (by omega), N45.Qdt p hl, h1, h2]
  rw [Qcu hc, List.map_append]
  rfl
 rintro zs H' ⟨rfl, e1⟩ l hl1
 rw [ln, ← lc, List.take_length]
 have f := Qae (o := .lst ((N45.crude n y p).map V.int)) hl1
 refine ⟨l, _, rfl, Qab, by omega, hg, (fun x hx => (N45.Qg9 hl hn hy x hx).mono (by omega)), fun p2 hp2 => ?_⟩
 exact q p2 _ ((e1.trans f).trans (Qae hp2)) Qab
theorem scay0 : FnScope ["lists", "place", "at", "numbers"] ["lists", "place"] (defScope say0) := fsc
theorem okay0 (D : Def K mg "first_with" say0 .none) (z_enumerate : mg "enumerate" = none) : Cal P w K mg base CX0 true 1 "first_with" ["lists", "place"] [] spFw := by
 obtain ⟨f, fd, F, hm⟩ := D
 refine ⟨f, fd, _, F.ok scay0 (fun vs H Q E h => ?_) (fun cdv A outer s H vs Q E hr h => ?_), hm, F.kp, (F.b2), .nil, F.b2⟩
 ·obtain ⟨a, Z, p, rfl, ha, hZ, hp, q1, q2⟩ := h
  rfl
 obtain ⟨a, Z, p, rfl, ha, hZ, hp, q1, q2⟩ := h
 have nd := scay0.nd
 refine ⟨_, (Qac (Qbh PassesOwn.never rfl (Qdw rfl z_enumerate (Qaa (pv 0) Qad)) (Qec rfl (Qbi (Qar (i := 2) nd rfl (Or.inl rfl)) (Qbi (Qar (i := 3) nd rfl (Or.inl rfl)) Qdc))) (Qag (Qbo (Qao Qik (Qax Qav (pv 3) (pv 1) (fun _ _ => rfl)) Qaf (nomark _)) (Qag (Qaq (pv 2))) Qaw)))
  (Qag (Qaq Qdy))), ?_⟩
 refine ⟨_, rfl, a, rfl, ⟨_, SqL.of ha⟩, ?_⟩
 refine Qev (xs := rfz Z) (fun i σ H' => ∃ (o2 o3 : Option V), σ = [some (.ref a), some (.int p), o2, o3] ∧ Same H H' ∧ ∀ z ∈ Z.take i, N45.gt z.2 p = 0) ⟨_, _, rfl, Qa0 _, fun z hz => nomatch hz⟩ ?_ ?_ ?_
 ·rintro i σ H' hi ⟨o2, o3, rfl, e, _⟩
  exact SqL.of (e _ _ ha)
 ·rintro i x σ H' t hx ⟨o2, o3, rfl, e, h0⟩ ht
  obtain ⟨z, hz, rfl⟩ := Qe9 hx
  have e1 := e.trans (Qae (o := .tup [.int (i : Int), .ref z.1]) ht)
  have zm := List.mem_of_getElem? hz
  refine ⟨t, _, rfl, SqT.of Qab, rfl, _, _, rfl, _, _, rfl, rfl, ?_⟩
  refine ⟨_, rfl, _, rfl, .inl ⟨z.1, _, _, _, rfl, rfl, SqL.of (e1 _ _ (hZ z zm)), atInt (hp z zm), rfl, _, rfl, ?_⟩⟩
  refine ndec2 (fun h => ?_) (fun h => ?_)
  ·have hne : N45.gt z.2 p ≠ 0 := fun w => h (congrArg V.int w)
   refine ⟨_, rfl, q2 i ?_ _ e1⟩
   obtain ⟨hi, ez⟩ := List.getElem?_eq_some_iff.mp hz
   refine List.findIdx?_eq_some_iff_getElem.mpr ⟨by rw [List.length_map]; exact hi, ?_, fun j hj => ?_⟩
   ·rw [List.getElem_map, ez]
    exact decide_eq_true hne
   ·rw [List.getElem_map]
    have hjl : j < Z.length := by omega
    have := h0 Z[j] (List.mem_of_getElem? (i := j) (by rw [List.getElem?_take_of_lt hj, List.getElem?_eq_getElem hjl]))
    simp [this]
  ·refine ⟨_, _, rfl, e1, fun y hy => ?_⟩
   rw [Qcu hz] at hy
   rcases List.mem_append.mp hy with c | c
   ·exact h0 y c
   ·rw [List.mem_singleton.mp c]
    exact V.int.inj h
 rintro σ H' ⟨o2, o3, rfl, e, h0⟩
 rw [Qbg, List.take_length] at h0
 refine q1 ?_ _ e
 refine List.findIdx?_eq_none_iff.mpr fun r hr => ?_
 obtain ⟨z, hz, rfl⟩ := List.mem_map.mp hr
 simp [h0 z hz]
theorem scbp0 : FnScope ["square", "leading", "others", "place", "at", "by"] ["square"] (defScope sbp0) := fsc
theorem okbp0 (D : Def K mg "turned" sbp0 .none) (cbq0 : Cal P w K mg base CX0 true 2 "widened" ["square"] [] spWid) (cay0 : Cal P w K mg base CX0 true 1 "first_with" ["lists", "place"] [] spFw) (cav0 : Cal P w K mg base CX0 true 3 "cleared" ["numbers", "by", "place"] [] spClr) (z_range : mg "range" = none) (z_len : mg "len" = none) : Cal P w K mg base CX0 true 4 "turned" ["square"] [] spTurn := by
 obtain ⟨f, fd, F, hm⟩ := D
 obtain ⟨fbq0, fdbq0, dbq0, Gbq0, mbq0, kbq0, bbq0, vbq0, bbq01⟩ := cbq0
 obtain ⟨fay0, fday0, day0, Gay0, may0, kay0, bay0, vay0, bay01⟩ := cay0
 obtain ⟨fav0, fdav0, dav0, Gav0, mav0, kav0, bav0, vav0, bav01⟩ := cav0
 refine ⟨f, fd, _, F.ok scbp0 (fun vs H Q E h => ?_) (fun cdv A outer s H vs Q E hr h => ?_), hm, F.kp, (F.b1), .nil, F.b1⟩
 ·obtain ⟨a, Z, E, rfl, ha, hZ, hS, q⟩ := h
  rfl
 obtain ⟨a, Z, E, rfl, ha, hZ, hS, q⟩ := h
 have nd := scbp0.nd
 refine ⟨_, (Qac (Qaj (i := 1) nd rfl (Or.inl rfl) (Qba Qad))
  (Qac (Qaj (i := 2) nd rfl (Or.inl rfl) (Qak Gbq0 (hr.mono (by decide)) rfl mbq0 kbq0 bbq0 Paired.nil pass0 (Qaa (pv 0) Qad)))
  (Qac (Qbh PassesOwn.never rfl (Qa1 rfl z_range (Qaa (Qan Qam rfl z_len Qbn (Qaa (pv 0) Qad)) Qad)) (Qar (i := 3) nd rfl (Or.inr rfl)) (Qac (Qaj (i := 4) nd rfl (Or.inl rfl) (Qak Gay0 (hr.mono (by decide)) rfl may0 kay0 bay0 Paired.nil pass0 (Qaa (pv 2) (Qaa (pv 3) Qad))))
  (Qag (Qbo (Qao Qf2 (pv 4) Qdy (nomark _)) (Qac (Qaj (i := 5) nd rfl (Or.inr rfl) (Qax Qav (pv 2) (pv 4) (fun _ _ => rfl)))
  (Qac (Qgt [5, 3] (i := 2) nd rfl (Or.inl rfl) rfl (LcOk.free ["place", "by"] rfl rfl (List.forall_mem_cons.mpr ⟨rfl, (List.forall_mem_cons.mpr ⟨rfl, (fun _ h => nomatch h)⟩)⟩) (by decide+kernel) rfl (by decide+kernel) rfl (by decide+kernel) (show (["numbers", "by", "place"] : List Str).Nodup from by decide+kernel) (List.forall_mem_cons.mpr ⟨⟨_, rfl, rfl, rfl, by decide+kernel⟩, (List.forall_mem_cons.mpr ⟨⟨_, rfl, rfl, rfl, by decide+kernel⟩, (fun _ h => nomatch h)⟩)⟩)) (Qas (Qal Qdh (Qb1 Qcd (pv 2) Qck (Qb7 (pv 4))) (Qb1 Qcd (pv 2) (Qb7 (Qal Qa2 (pv 4) Qaf)) Qck))) (fun C s2 H2 fp xe => (Qak Gav0 (hr.mono (by decide)) rfl mav0 kav0 bav0 Paired.nil pass0 (Qaa (pv 0) (Qaa (pv 1) (Qaa (pv 2) Qad))))))
  (Qag (Qaj (i := 1) nd rfl (Or.inl rfl) (Qal Qdh (Qdl [5, 3] rfl (LcOk.free ["place", "by"] rfl rfl (List.forall_mem_cons.mpr ⟨rfl, (List.forall_mem_cons.mpr ⟨rfl, (fun _ h => nomatch h)⟩)⟩) (by decide+kernel) rfl (by decide+kernel) rfl (by decide+kernel) (show (["numbers", "by", "place"] : List Str).Nodup from by decide+kernel) (List.forall_mem_cons.mpr ⟨⟨_, rfl, rfl, rfl, by decide+kernel⟩, (List.forall_mem_cons.mpr ⟨⟨_, rfl, rfl, rfl, by decide+kernel⟩, (fun _ h => nomatch h)⟩)⟩)) (Qas (pv 1)) (fun C s2 H2 fp xe => (Qak Gav0 (hr.mono (by decide)) rfl mav0 kav0 bav0 Paired.nil pass0 (Qaa (pv 0) (Qaa (pv 1) (Qaa (pv 2) Qad)))))) (Qba (Qaa (pv 5) Qad))))))) Qaw))))
  (Qag (Qaq (Qbp (Qaa (pv 1) (Qaa (pv 2) Qad)))))))), ?_⟩
 have hline : 10 ^ 6 ≤ sizeLine := by decide
 obtain ⟨hq, h6, he⟩ := hS
 have lz : (rws Z).length = Z.length := List.length_map ..
 refine ⟨(by show 0 ≤ sizeLine; decide), fun l0 hl0 => ?_⟩
 have e1 := Qae (o := .lst []) hl0
 refine ⟨_, rfl, a, Z, rfl, e1 _ _ ha, hZ.same e1, h6, (fun z hz => ?_), fun lb0 B0 H1 e2 hlb0 hB0 hBv => ?_⟩
 ·have := hq.len z.2 (List.mem_map.mpr ⟨z, hz, rfl⟩)
  omega
 have e12 := e1.trans e2
 refine ⟨_, rfl, a, _, rfl, .inl (SqL.of (e12 _ _ ha)), _, rfl, ?_⟩
 rw [Qbg]
 refine ⟨by omega, by omega, ?_⟩
 refine Qbk (fun i σ H' => ∃ (la lb : Addr) (A B : List Lz) (o3 o4 o5 : Option V), σ = [some (.ref a), some (.ref la), some (.ref lb), o3, o4, o5] ∧ Same H H' ∧ H' la = some (.lst (rfz A)) ∧ H' lb = some (.lst (rfz B)) ∧ LL H' A ∧ LL H' B ∧ (rws A, rws B) = N45.trn (rws Z) i) ⟨l0, lb0, [], B0, _, _, _, rfl, e12, e2 _ _ Qab, hlb0, (fun z hz => nomatch hz), hB0, (by rw [hBv]; rfl)⟩ ?_ ?_
 ·rintro i σ H2 hi ⟨la, lb, A, B, o3, o4, o5, rfl, e, hla, hlb, hA, hB, hv⟩
  have hi6 : i < Z.length := by omega
  obtain ⟨tl, tr⟩ := N45.Qhy hq (p := i) (by omega)
  have hvA : rws A = (N45.trn (rws Z) i).1 := congrArg Prod.fst hv
  have hvB : rws B = (N45.trn (rws Z) i).2 := congrArg Prod.snd hv
  rw [← hvA, ← hvB] at tl tr
  rw [List.length_map, List.length_map, lz] at tl
  have exi : N45.ex E i ≤ 1990 := Nat.le_trans (N45.Qnf E (Nat.le_of_lt hi6)) he
  have rA : ∀ z ∈ A, z.2.length = 2 * Z.length ∧ ∀ x ∈ z.2, N45.Bt (N45.ex E i) x := fun z hz => by
   have := tr z.2 (List.mem_append_left _ (List.mem_map.mpr ⟨z, hz, rfl⟩))
   rw [lz] at this
   exact this
  have rB : ∀ z ∈ B, z.2.length = 2 * Z.length ∧ ∀ x ∈ z.2, N45.Bt (N45.ex E i) x := fun z hz => by
   have := tr z.2 (List.mem_append_right _ (List.mem_map.mpr ⟨z, hz, rfl⟩))
   rw [lz] at this
   exact this
  rw [show (0 : Int) + (i : Int) = (i : Int) from Int.zero_add _]
  refine ⟨_, rfl, _, rfl, lb, B, i, rfl, hlb, hB, (fun z hz => by have := (rB z hz).1; omega), (fun hn H3 e3 => ?_), fun j hj H3 e3 => ?_⟩
  ·refine ⟨_, rfl, rfl, _, rfl, ndecF rfl ?_⟩
   refine ⟨la, lb, A, B, _, _, _, rfl, e.trans e3, e3 _ _ hla, e3 _ _ hlb, hA.same e3, hB.same e3, ?_⟩
   show _ = N45.stp i (N45.trn (rws Z) i)
   unfold N45.stp
   rw [← hv]
   dsimp only
   rw [hn]
  ·obtain ⟨hjB, hjn⟩ := N45.Qf7 hj
   rw [List.length_map] at hjB
   have hbj : B[j]? = some B[j] := List.getElem?_eq_getElem hjB
   have hbm : B[j] ∈ B := List.getElem_mem _
   have ne := N45.trn_ne hq (p := i) (i := j) (by omega) (by rw [← hvB]; exact hj)
   rw [← hvA, ← hvB, Qgo hbj] at ne
   refine ⟨_, rfl, rfl, _, rfl, ndecT (fun z => by cases z) ?_⟩
   refine ⟨_, rfl, _, rfl, .inl ⟨lb, _, _, _, rfl, rfl, SqL.of (e3 _ _ hlb), Qce (at_rfz hbj), ?_⟩⟩
   generalize hbe : B[j] = b at *
   refine ⟨_, rfl, _, rfl, _, rfl, lb, _, rfl, SqL.of (e3 _ _ hlb), fun x1 hx1 => ?_⟩
   have s1 := Qae (o := .lst (cutV (rfz B) none (some (j : Int)))) hx1
   refine ⟨_, rfl, _, rfl, _, _, rfl, rfl, _, rfl, lb, _, rfl, SqL.of (s1 _ _ (e3 _ _ hlb)), fun x2 hx2 => ?_⟩
   have s2 := Qae (o := .lst (cutV (rfz B) (some ((j : Int) + 1)) none)) hx2
   have lB : (rfz B).length = B.length := Qbg B
   have c1 : cutV (rfz B) none (some (j : Int)) = rfz (B.take j) := by
    rw [cutT (by omega)]
    unfold rfz
    rw [List.map_take]
   have c2 : cutV (rfz B) (some ((j : Int) + 1)) none = rfz (B.drop (j + 1)) := by
    rw [show (j : Int) + 1 = ((j + 1 : Nat) : Int) by omega, cutD (by omega)]
    unfold rfz
    rw [List.map_drop]
   have lc : (rfz (B.take j)).length + (rfz (B.drop (j + 1))).length ≤ B.length := by
    rw [Qbg, Qbg, List.length_take, List.length_drop]
    omega
   refine ⟨x1, x2, _, _, rfl, rfl, s2 _ _ Qab, Qab, by rw [c1, c2]; omega, fun x3 hx3 => ?_⟩
   rw [c1] at s1 s2 hx3 ⊢
   rw [c2] at s2 hx3 ⊢
   rw [← Qcy]
   have s3 := Qae (o := .lst (rfz (B.take j ++ B.drop (j + 1)))) hx3
   have es := (s1.trans s2).trans s3
   have e4 := e3.trans es
   have hx3v : upd (upd (upd H3 x1 (.lst (rfz (B.take j)))) x2 (.lst (rfz (B.drop (j + 1))))) x3 (.lst (rfz (B.take j ++ B.drop (j + 1)))) x3 = some (.lst (rfz (B.take j ++ B.drop (j + 1)))) := Qab
   generalize upd (upd (upd H3 x1 (.lst (rfz (B.take j)))) x2 (.lst (rfz (B.drop (j + 1))))) x3 (.lst (rfz (B.take j ++ B.drop (j + 1)))) = H4 at s3 es e4 hx3v ⊢
   have cm : ∀ z ∈ B.take j ++ B.drop (j + 1), z ∈ B := fun z hz => (List.mem_append.mp hz).elim List.mem_of_mem_take List.mem_of_mem_drop
   have cutv : rws (B.take j ++ B.drop (j + 1)) = N45.cut (rws B) j := by
    unfold N45.cut
    rw [Qcx, ← List.map_take, ← List.map_drop]
   have hC4 : LL H4 (B.take j ++ B.drop (j + 1)) := fun z hz => e4 _ _ (hB z (cm z hz))
   have hCn : ∀ z ∈ B.take j ++ B.drop (j + 1), N45.gL 0 (N45.crude z.2 b.2 i) ≠ 0 := fun z hz => ne z.2 (List.mem_append_right _ (by rw [← cutv]; exact List.mem_map.mpr ⟨z, hz, rfl⟩))
   have hCr : ∀ z ∈ B.take j ++ B.drop (j + 1), z.2.length = 2 * Z.length ∧ ∀ x ∈ z.2, N45.Bt (N45.ex E i) x := fun z hz => rB z (cm z hz)
   have hC6 : (B.take j ++ B.drop (j + 1)).length ≤ 6 := by
    rw [← Qbg, Qcy, List.length_append]
    omega
   generalize B.take j ++ B.drop (j + 1) = C at hx3v cutv hC4 hCn hCr hC6
   have hb4 := e4 _ _ (hB b hbm)
   have rb := rB b hbm
   have lC : (rfz C).length = C.length := Qbg C
   have lA : (rfz A).length = A.length := Qbg A
   refine ⟨x3, rfl, ⟨_, SqL.of hx3v⟩, ?_⟩
   refine Qb8 (xs := rfz C) (fun k ys H5 => ∃ Y : List Lz, ys = rfz Y ∧ Same H4 H5 ∧ LL H5 Y ∧ rws Y = (rws (C.take k)).map fun r => N45.clr r b.2 i) ⟨[], rfl, Qa0 _, (fun z hz => nomatch hz), rfl⟩ (by omega) ?_ ?_ ?_
   ·rintro k ys H5 hk ⟨Y, rfl, e5, _, hY⟩
    refine ⟨SqL.of (e5 _ _ hx3v), ?_⟩
    have := congrArg List.length hY
    rw [List.length_map, List.length_map, List.length_map, List.length_take] at this
    rw [Qbg]
    omega
   ·rintro k x ys H5 hx ⟨Y, rfl, e5, hY, hYv⟩
    obtain ⟨z, hz, rfl⟩ := Qe9 hx
    have zm := List.mem_of_getElem? hz
    refine ⟨_, rfl, _, rfl, _, rfl, z.1, b.1, z.2, b.2, i, N45.ex E i, rfl, e5 _ _ (hC4 z zm), e5 _ _ hb4, by have := (hCr z zm).1; omega, by have := (hCr z zm).1; omega, by have := (hCr z zm).1; omega, hCn z zm, (hCr z zm).2, rb.2, exi, fun y H6 e6 hy => ?_⟩
    refine ⟨Y ++ [(y, N45.clr z.2 b.2 i)], by rw [Qcy]; rfl, e5.trans e6, (hY.same e6).app fun w hw => ?_, ?_⟩
    ·rw [List.mem_singleton.mp hw]
     exact hy
    ·rw [Qcx, hYv, Qcu hz, Qcx, List.map_append]
     rfl
   rintro ys H5 ⟨Y, rfl, e5, hY, hYv⟩ nb hnb
   rw [lC, List.take_length] at hYv
   have f5 := Qae (o := .lst (rfz Y)) hnb
   have e6 := e5.trans f5
   have e46 := e4.trans e6
   have hY6 := hY.same f5
   have hnb6 : upd H5 nb (.lst (rfz Y)) nb = some (.lst (rfz Y)) := Qab
   generalize upd H5 nb (.lst (rfz Y)) = H6 at f5 e6 e46 hY6 hnb6 ⊢
   have hla6 := e46 _ _ hla
   have hA6 := hA.same e46
   have hb6 := e6 _ _ hb4
   refine ⟨_, rfl, la, rfl, ⟨_, SqL.of hla6⟩, ?_⟩
   refine Qb8 (xs := rfz A) (fun k ys H7 => ∃ W : List Lz, ys = rfz W ∧ Same H6 H7 ∧ LL H7 W ∧ rws W = (rws (A.take k)).map fun r => N45.clr r b.2 i) ⟨[], rfl, Qa0 _, (fun z hz => nomatch hz), rfl⟩ (by omega) ?_ ?_ ?_
   ·rintro k ys H7 hk ⟨W, rfl, e7, _, hW⟩
    refine ⟨SqL.of (e7 _ _ hla6), ?_⟩
    have := congrArg List.length hW
    rw [List.length_map, List.length_map, List.length_map, List.length_take] at this
    rw [Qbg]
    omega
   ·rintro k x ys H7 hx ⟨W, rfl, e7, hW, hWv⟩
    obtain ⟨z, hz, rfl⟩ := Qe9 hx
    have zm := List.mem_of_getElem? hz
    refine ⟨_, rfl, _, rfl, _, rfl, z.1, b.1, z.2, b.2, i, N45.ex E i, rfl, e7 _ _ (hA6 z zm), e7 _ _ hb6, by have := (rA z zm).1; omega, by have := (rA z zm).1; omega, by have := (rA z zm).1; omega, ne z.2 (List.mem_append_left _ (List.mem_map.mpr ⟨z, zm, rfl⟩)), (rA z zm).2, rb.2, exi, fun y H8 e8 hy => ?_⟩
    refine ⟨W ++ [(y, N45.clr z.2 b.2 i)], by rw [Qcy]; rfl, e7.trans e8, (hW.same e8).app fun w hw => ?_, ?_⟩
    ·rw [List.mem_singleton.mp hw]
     exact hy
    ·rw [Qcx, hWv, Qcu hz, Qcx, List.map_append]
     rfl
   rintro ys H7 ⟨W, rfl, e7, hW, hWv⟩ w1 hw1
   rw [lA, List.take_length] at hWv
   have f7 := Qae (o := .lst (rfz W)) hw1
   refine ⟨_, rfl, (by show 1 ≤ sizeLine; decide), fun w2 hw2 => ?_⟩
   have f8 := Qae (o := .lst [.ref b.1]) hw2
   have lW : (rfz W).length = A.length := by
    rw [Qbg]
    have := congrArg List.length hWv
    rw [List.length_map, List.length_map, List.length_map] at this
    exact this
   refine ⟨w1, w2, _, _, rfl, rfl, f8 _ _ Qab, Qab, by rw [lW]; show A.length + 1 ≤ sizeLine; omega, fun w3 hw3 => ?_⟩
   have f9 := Qae (o := .lst (rfz W ++ [.ref b.1])) hw3
   have e79 := e7.trans ((f7.trans f8).trans f9)
   have e69 := e6.trans e79
   refine ⟨w3, nb, W ++ [b], Y, _, _, _, rfl, (e.trans e3).trans (es.trans e69), (by rw [Qab, Qcy]; rfl), e79 _ _ hnb6, (hW.same ((f7.trans f8).trans f9)).app (fun z hz => by rw [List.mem_singleton.mp hz]; exact e69 _ _ hb4), hY6.same e79, ?_⟩
   show _ = N45.stp i (N45.trn (rws Z) i)
   unfold N45.stp
   rw [← hv]
   dsimp only
   rw [hj]
   dsimp only
   rw [Qgo hbj, ← cutv, Qcx, hWv, hYv]
   rfl
 rintro σ H2 ⟨la, lb, A, B, o3, o4, o5, rfl, e, hla, hlb, hA, hB, hv⟩
 refine ⟨_, rfl, _, rfl, (by show 2 ≤ sizeLine; decide), fun t ht => ?_⟩
 have f := Qae (o := .tup [.ref la, .ref lb]) ht
 exact q t la lb A B _ (e.trans f) Qab (f _ _ hla) (f _ _ hlb) (hA.same f) (hB.same f) hv
theorem scbi0 : FnScope ["numbers", "place", "many", "sign"] ["numbers", "place", "many"] (defScope sbi0) := fsc
theorem okbi0 (D : Def K mg "pair_of" sbi0 .none) : Cal P w K mg base CX0 true 1 "pair_of" ["numbers", "place", "many"] [] spPair := by
 obtain ⟨f, fd, F, hm⟩ := D
 refine ⟨f, fd, _, F.ok scbi0 (fun vs H Q E h => ?_) (fun cdv A outer s H vs Q E hr h => ?_), hm, F.kp, (F.b3), .nil, F.b3⟩
 ·obtain ⟨a, r, k, m, rfl, ha, hk, hm, h100, hb, q⟩ := h
  rfl
 obtain ⟨a, r, k, m, rfl, ha, hk, hm, h100, hb, q⟩ := h
 have nd := scbi0.nd
 refine ⟨_, (Qac (Qaj (i := 3) nd rfl (Or.inr rfl) (Qgw (Qao op_gt (Qax Qav (pv 0) (pv 1) (fun _ _ => rfl)) Qaf (nomark _)) Qaf (Qkg Qgh Qaf)))
  (Qag (Qaq (Qbp (Qaa (Qal Qaz (pv 3) (Qax Qav (pv 0) (pv 1) (fun _ _ => rfl))) (Qaa (Qdl [3] rfl (LcOk.free ["sign"] rfl rfl (List.forall_mem_cons.mpr ⟨rfl, (fun _ h => nomatch h)⟩) (by decide+kernel) rfl (by decide+kernel) rfl (by decide+kernel) (show (["number", "sign"] : List Str).Nodup from by decide+kernel) (List.forall_mem_cons.mpr ⟨⟨_, rfl, rfl, rfl, by decide+kernel⟩, (fun _ h => nomatch h)⟩)) (Qas (Qb1 Qcd (pv 0) (Qb7 (pv 2)) Qck)) (fun C s2 H2 fp xe => (Qal Qaz (pv 1) (pv 0)))) Qad)))))), ?_⟩
 have hline : 600 ≤ sizeLine := by decide
 apply join1 (fun (x : Int) => x = sgp r k)
 ·intro kk
  refine ⟨_, rfl, _, rfl, .inl ⟨a, _, _, _, rfl, rfl, SqL.of ha, atInt hk, _, _, rfl, rfl, _, rfl, ?_⟩⟩
  refine dec2 (fun h => ?_) (fun h => ?_)
  ·obtain ⟨x, ex⟩ : ∃ x, x = (1 : Int) := ⟨_, rfl⟩
   rw [← ex]
   exact kk x (by rw [ex]; exact (if_pos h).symm)
  ·exact ⟨_, rfl, kk (-1) (if_neg h).symm⟩
 intro s1 es
 have b1 : s1.natAbs < 2 ^ 1 := by
  rw [es]
  unfold sgp
  split <;> decide
 have lm : ((r.drop m).map V.int).length = r.length - m := by rw [List.length_map, List.length_drop]
 refine ⟨_, rfl, _, rfl, _, rfl, .inl ⟨a, _, _, _, rfl, rfl, SqL.of ha, atInt hk, _, _, rfl, rfl, mulN b1 (N45.Qe0 hb k) (by omega) (by omega), ?_⟩⟩
 refine ⟨_, rfl, _, rfl, _, rfl, a, _, rfl, SqL.of ha, fun x1 hx1 => ?_⟩
 have c1 : cutV (r.map V.int) (some (m : Int)) none = (r.drop m).map V.int := by
  rw [cutD (by rw [List.length_map]; exact hm), List.map_drop]
 rw [c1]
 have f1 := Qae (o := .lst ((r.drop m).map V.int)) hx1
 have hx1v : upd H x1 (.lst ((r.drop m).map V.int)) x1 = some (.lst ((r.drop m).map V.int)) := Qab
 generalize upd H x1 (.lst ((r.drop m).map V.int)) = H1 at f1 hx1v ⊢
 refine ⟨x1, rfl, ⟨_, SqL.of hx1v⟩, ?_⟩
 refine Qb8 (xs := (r.drop m).map V.int) (fun i ys H' => ys = (((r.drop m).take i).map fun x => s1 * x).map V.int ∧ H' = H1) ⟨rfl, rfl⟩ (by omega) ?_ ?_ ?_
 ·rintro i ys H' hi ⟨rfl, rfl⟩
  refine ⟨SqL.of hx1v, ?_⟩
  rw [List.length_map, List.length_map, List.length_take, List.length_drop]
  omega
 ·rintro i x ys H' hx ⟨rfl, rfl⟩
  obtain ⟨w, hw, rfl⟩ := Qc3 hx
  have bw : N45.Bt 1990 w := hb w (List.mem_of_mem_drop (List.mem_of_getElem? hw))
  refine ⟨_, rfl, _, rfl, _, _, rfl, rfl, mulN b1 bw (by omega) (by omega), ?_, rfl⟩
  rw [Qcu hw, List.map_append, List.map_append]
  rfl
 rintro ys H' ⟨rfl, rfl⟩ l hl
 rw [List.length_map, List.take_length]
 have f2 := Qae (o := .lst (((r.drop m).map fun x => s1 * x).map V.int)) hl
 refine ⟨(by show 2 ≤ sizeLine; decide), fun t ht => ?_⟩
 have f3 := Qae (o := .tup [.int (s1 * N45.gt r k), .ref l]) ht
 rw [es] at f2 f3 ht ⊢
 exact q t l _ ((f1.trans f2).trans f3) (f1.free hl) ((f1.trans f2).free ht) Qab (f3 _ _ Qab)
theorem scbj0 : FnScope ["square", "many", "both"] ["square"] (defScope sbj0) := fsc
theorem okbj0 (D : Def K mg "paper_of" sbj0 .none) (cbp0 : Cal P w K mg base CX0 true 4 "turned" ["square"] [] spTurn) (cbi0 : Cal P w K mg base CX0 true 1 "pair_of" ["numbers", "place", "many"] [] spPair) (z_len : mg "len" = none) (z_enumerate : mg "enumerate" = none) : Cal P w K mg base CX0 true 5 "paper_of" ["square"] [] spPapN := by
 obtain ⟨f, fd, F, hm⟩ := D
 obtain ⟨fbp0, fdbp0, dbp0, Gbp0, mbp0, kbp0, bbp0, vbp0, bbp01⟩ := cbp0
 obtain ⟨fbi0, fdbi0, dbi0, Gbi0, mbi0, kbi0, bbi0, vbi0, bbi01⟩ := cbi0
 refine ⟨f, fd, _, F.ok scbj0 (fun vs H Q E h => ?_) (fun cdv A outer s H vs Q E hr h => ?_), hm, F.kp, (F.b1), .nil, F.b1⟩
 ·obtain ⟨a, Z, E, rfl, ha, hZ, hS, hn, q1⟩ := h
  rfl
 obtain ⟨a, Z, E, rfl, ha, hZ, hS, hn, q1⟩ := h
 have nd := scbj0.nd
 refine ⟨_, (Qac (Qaj (i := 1) nd rfl (Or.inr rfl) (Qan Qam rfl z_len Qbn (Qaa (pv 0) Qad)))
  (Qac (Qaj (i := 2) nd rfl (Or.inl rfl) (Qak Gbp0 (hr.mono (by decide)) rfl mbp0 kbp0 bbp0 Paired.nil pass0 (Qaa (pv 0) Qad)))
  (Qac (Qbo (Qao (Qdn hr) (Qax Qav (pv 2) Qaf (fun _ _ => rfl)) (Qba Qad) (nomark _)) (Qag Qgu) Qaw)
  (Qag (Qaq (Qee (xs := ["place", "numbers"]) [1] rfl (LcOkT.free (xs := ["place", "numbers"]) ["many"] rfl rfl (List.forall_mem_cons.mpr ⟨rfl, (fun _ h => nomatch h)⟩) (by decide+kernel) rfl (by decide+kernel) (by decide+kernel) (by decide+kernel) (show (["place", "numbers", "many"] : List Str).Nodup from by decide+kernel) (List.forall_mem_cons.mpr ⟨⟨_, rfl, rfl, rfl, by decide+kernel⟩, (fun _ h => nomatch h)⟩)) (Qdw rfl z_enumerate (Qaa (Qax Qav (pv 2) Qaf (fun _ _ => rfl)) Qad)) (Qco rfl (LcOkT.free (xs := ["place", "numbers"]) ["many"] rfl rfl (List.forall_mem_cons.mpr ⟨rfl, (fun _ h => nomatch h)⟩) (by decide+kernel) rfl (by decide+kernel) (by decide+kernel) (by decide+kernel) (show (["place", "numbers", "many"] : List Str).Nodup from by decide+kernel) (List.forall_mem_cons.mpr ⟨⟨_, rfl, rfl, rfl, by decide+kernel⟩, (fun _ h => nomatch h)⟩))) (fun C s2 H2 fp xe => (Qak Gbi0 (hr.mono (by decide)) rfl mbi0 kbi0 bbi0 Paired.nil pass0 (Qaa (pv 1) (Qaa (pv 0) (Qaa (pv 2) Qad))))))))))), ?_⟩
 have hline : 10 ^ 6 ≤ sizeLine := by decide
 have lz : (rws Z).length = Z.length := List.length_map ..
 refine ⟨_, rfl, a, _, rfl, .inl (SqL.of ha), ?_⟩
 rw [Qbg]
 refine ⟨_, rfl, a, Z, E, rfl, ha, hZ, hS, fun t la lb A B H1 e1 ht hla hlb hA hB hv => ?_⟩
 obtain ⟨hq, h6, he⟩ := hS
 obtain ⟨tl, tr⟩ := N45.Qhy hq (p := Z.length) (by omega)
 have hvA : rws A = (N45.trn (rws Z) Z.length).1 := congrArg Prod.fst hv
 have hvB : rws B = (N45.trn (rws Z) Z.length).2 := congrArg Prod.snd hv
 rw [← hvA, ← hvB] at tl tr
 rw [List.length_map, List.length_map, lz] at tl
 have rA : ∀ z ∈ A, z.2.length = 2 * Z.length ∧ ∀ x ∈ z.2, N45.Bt 1990 x := fun z hz => by
  have := tr z.2 (List.mem_append_left _ (List.mem_map.mpr ⟨z, hz, rfl⟩))
  rw [lz] at this
  exact ⟨this.1, fun x hx => (this.2 x hx).mono he⟩
 have hT := SqT.of (K := K) ht
 refine ⟨_, rfl, .inr (.inl ⟨t, _, 1, _, rfl, rfl, hT, rfl, (by show 0 ≤ sizeLine; decide), fun l0 hl0 => ?_⟩)⟩
 have f0 := Qae (o := .lst []) hl0
 have e2 := e1.trans f0
 refine ⟨lb, l0, _, _, rfl, rfl, SqL.of (f0 _ _ hlb), SqL.of Qab, ?_⟩
 have ht2 := f0 _ _ ht
 have hla2 := f0 _ _ hla
 have hlb2 := f0 _ _ hlb
 have hA2 := hA.same f0
 have hB2 := hB.same f0
 generalize upd H1 l0 (.lst []) = H2 at f0 e2 ht2 hla2 hlb2 hA2 hB2 ⊢
 have hT := SqT.of (K := K) ht2
 cases B with
 | cons b B' => exact absurd (hvB.trans hn) (by simp [rws])
 | nil =>
   refine .inr ⟨⟨rfl, fun j x y h1 h2 => by simp at h2⟩, _, rfl, iteF ?_⟩
   have lA : A.length = Z.length := by simpa using tl
   have lAr : (rfz A).length = A.length := Qbg A
   refine ⟨_, rfl, .inr (.inl ⟨t, _, 0, _, rfl, rfl, hT, rfl, la, rfl, ⟨_, SqL.of hla2⟩, ?_⟩)⟩
   refine Qix (xs := rfz A) (fun i ys H' => ∃ Y : List Pr, ys = rfp Y ∧ Same H2 H' ∧ PP H' Y ∧ prs Y = (List.range i).map (fun k => prF ((rws A).getD k []) k Z.length) ∧ ∀ y ∈ Y, H y.2.2.1 = none ∧ H y.1 = none) ⟨[], rfl, Qa0 _, (fun z hz => nomatch hz), rfl, fun y hy => nomatch hy⟩ (by omega) ?_ ?_ ?_
   ·rintro i ys H' hi ⟨Y, rfl, e, _, hY, _⟩
    refine ⟨SqL.of (e _ _ hla2), ?_⟩
    have := congrArg List.length hY
    rw [List.length_map, List.length_map, List.length_range] at this
    rw [Qen]
    exact this
   ·rintro i x ys H' t2 hx ⟨Y, rfl, e, hY, hYv, hY0⟩ ht2 σ0 h0
    obtain ⟨z, hz, rfl⟩ := Qe9 hx
    obtain ⟨u, v, rfl⟩ := Qeb h0
    have et := Qae (o := .tup [.int (i : Int), .ref z.1]) ht2
    have e3 := e.trans et
    have zm := List.mem_of_getElem? hz
    have hi : i < A.length := (List.getElem?_eq_some_iff.mp hz).1
    refine ⟨t2, _, rfl, SqT.of Qab, rfl, _, _, rfl, _, _, rfl, rfl, [_, _], rfl, rfl, ?_⟩
    refine ⟨_, rfl, _, rfl, _, rfl, z.1, z.2, i, Z.length, rfl, e3 _ _ (hA2 z zm), by have := (rA z zm).1; omega, by have := (rA z zm).1; omega, by have := (rA z zm).1; omega, (rA z zm).2, fun y yl H'' e4 hyl hyt hy hyl2 => ?_⟩
    have e5 := et.trans e4
    refine ⟨Y ++ [(y, (prF z.2 i Z.length).1, yl, (prF z.2 i Z.length).2)], by rw [Qmj]; rfl, e.trans e5, fun w hw => ?_, ?_, fun w hw => ?_⟩
    ·rcases List.mem_append.mp hw with c | c
     ·exact hY.same e5 w c
     ·rw [List.mem_singleton.mp c]
      exact ⟨hy, hyl2⟩
    ·rw [Qmm, hYv, List.range_succ, List.map_append]
     refine congrArg _ ?_
     show [prF z.2 i Z.length] = [prF ((rws A).getD i []) i Z.length]
     rw [Qgo hz]
    ·rcases List.mem_append.mp hw with c | c
     ·exact hY0 w c
     ·rw [List.mem_singleton.mp c]
      exact ⟨e2.free (e3.free hyl), e2.free (e3.free hyt)⟩
   rintro ys H' ⟨Y, rfl, e, hY, hYv, hY0⟩ p hp
   have f := Qae (o := .lst (rfp Y)) hp
   refine q1 p Y _ (e2.trans (e.trans f)) Qab (hY.same f) ?_ ((e2.trans e).free hp) hY0
   rw [hYv, lAr, lA]
   unfold pap
   rw [lz, ← hvA]
theorem Qm4 {n i : Nat} (h : i < n) : ixN n ((i : Nat) : Int) = some i := by
 unfold ixN
 rw [if_pos (by omega), if_pos (by omega), Int.toNat_natCast]
def spSq : Sp := fun vs H Q _ => ∃ (fl l : Addr) (fs : List Str) (R : List Rw) (gs es : List Str), vs = [.ref fl, .ref l] ∧ H fl = some (.lst (fs.map V.str)) ∧ fs.Nodup ∧ fs.length ≤ 8 ∧ H l = some (.lst (rfw R)) ∧ RX H gs es R ∧ R.length ≤ 100 ∧
 ∀ (p : Addr) (Z : List Lz) H', Same H H' → H p = none → H' p = some (.lst (rfz Z)) → LL H' Z → (∀ z ∈ Z, H z.1 = none ∧ z.1 ≠ p) → (Z.map (·.1)).Nodup → Z.map (·.2) = fs.map (dueR fs R) → Q (.ref p) H'
theorem scbm0 : FnScope ["firms", "rows", "square", "place", "firm", "numbers"] ["firms", "rows"] (defScope sbm0) := fsc
theorem okbm0 (D : Def K mg "square_of" sbm0 .none) (cbl0 : Cal P w K mg base CX0 true 1 "shares_of" ["rows", "holder", "firm"] [] spHeld) (cas0 : Cal P w K mg base CX0 true 1 "all_shares" ["rows", "firm"] [] spAll) (z_enumerate : mg "enumerate" = none) : Cal P w K mg base CX0 true 2 "square_of" ["firms", "rows"] [] spSq := by
 obtain ⟨f, fd, F, hm⟩ := D
 obtain ⟨fbl0, fdbl0, dbl0, Gbl0, mbl0, kbl0, bbl0, vbl0, bbl01⟩ := cbl0
 obtain ⟨fas0, fdas0, das0, Gas0, mas0, kas0, bas0, vas0, bas01⟩ := cas0
 refine ⟨f, fd, _, F.ok scbm0 (fun vs H Q E h => ?_) (fun cdv A outer s H vs Q E hr h => ?_), hm, F.kp, (F.b2), .nil, F.b2⟩
 ·obtain ⟨fl, l, fs, R, gs, es, rfl, hfl, hnd, hf8, hl, hR, hlen, q⟩ := h
  rfl
 obtain ⟨fl, l, fs, R, gs, es, rfl, hfl, hnd, hf8, hl, hR, hlen, q⟩ := h
 have nd := scbm0.nd
 refine ⟨_, (Qac (Qaj (i := 2) nd rfl (Or.inl rfl) (Qba Qad))
  (Qac (Qbh PassesOwn.never rfl (Qdw rfl z_enumerate (Qaa (pv 0) Qad)) (Qec rfl (Qbi (Qar (i := 3) nd rfl (Or.inl rfl)) (Qbi (Qar (i := 4) nd rfl (Or.inr rfl)) Qdc))) (Qac (Qgt [1, 4] (i := 5) nd rfl (Or.inl rfl) rfl (LcOk.free ["rows", "firm"] rfl rfl (List.forall_mem_cons.mpr ⟨rfl, (List.forall_mem_cons.mpr ⟨rfl, (fun _ h => nomatch h)⟩)⟩) (by decide+kernel) rfl (by decide+kernel) rfl (by decide+kernel) (show (["holder", "rows", "firm"] : List Str).Nodup from by decide+kernel) (List.forall_mem_cons.mpr ⟨⟨_, rfl, rfl, rfl, by decide+kernel⟩, (List.forall_mem_cons.mpr ⟨⟨_, rfl, rfl, rfl, by decide+kernel⟩, (fun _ h => nomatch h)⟩)⟩)) (Qas (pv 0)) (fun C s2 H2 fp xe => (Qkg Qgh (Qak Gbl0 (hr.mono (by decide)) rfl mbl0 kbl0 bbl0 Paired.nil pass0 (Qaa (pv 1) (Qaa (pv 0) (Qaa (pv 2) Qad)))))))
  (Qac (ps_asg (Qal Qa2 (Qax Qav (pv 5) (pv 3) (fun _ _ => rfl)) (Qak Gas0 (hr.mono (by decide)) rfl mas0 kas0 bas0 Paired.nil pass0 (Qaa (pv 1) (Qaa (pv 4) Qad)))) (pg_sub (pv 5) (pv 3) Qkb))
  (Qag (Qa9 (Qc0 PySem.F.plainAttrs_list PySem.F.slot_list_append PySem.F.type_list_append Qb5 (pv 2) (Qaa (pv 5) Qad)))))))
  (Qag (Qaq (pv 2))))), ?_⟩
 have hline : 10 ^ 6 ≤ sizeLine := by decide
 have lfm : (fs.map V.str).length = fs.length := List.length_map ..
 refine ⟨(by show 0 ≤ sizeLine; decide), fun p hp => ?_⟩
 have e1 := Qae (o := .lst []) hp
 refine ⟨_, rfl, fl, rfl, ⟨_, SqL.of (e1 _ _ hfl)⟩, ?_⟩
 refine Qev (xs := fs.map V.str) (fun i σ H' => ∃ (o3 o4 o5 : Option V) (Z : List Lz), σ = [some (.ref fl), some (.ref l), some (.ref p), o3, o4, o5] ∧ Same H H' ∧ H' p = some (.lst (rfz Z)) ∧ LL H' Z ∧ (∀ z ∈ Z, H z.1 = none ∧ z.1 ≠ p) ∧ (Z.map (·.1)).Nodup ∧ Z.map (·.2) = (fs.take i).map (dueR fs R)) ⟨_, _, _, [], rfl, e1, Qab, (fun z hz => nomatch hz), (fun z hz => nomatch hz), List.nodup_nil, rfl⟩ ?_ ?_ ?_
 ·rintro i σ H1 hi ⟨o3, o4, o5, Z, rfl, e, _⟩
  exact SqL.of (e _ _ hfl)
 ·rintro i x σ H1 t hx ⟨o3, o4, o5, Z, rfl, e, hpp, hZ, hZ0, hZn, hZv⟩ ht
  obtain ⟨f, hf, rfl⟩ := Qbq hx
  have hi8 : i < fs.length := (List.getElem?_eq_some_iff.mp hf).1
  have hZl : Z.length ≤ 8 := by
   have := congrArg List.length hZv
   rw [List.length_map, List.length_map, List.length_take] at this
   omega
  have et := Qae (o := .tup [.int (i : Int), .str f]) ht
  have e2 := e.trans et
  refine ⟨t, _, rfl, SqT.of Qab, rfl, _, _, rfl, _, _, rfl, rfl, ?_⟩
  refine ⟨_, rfl, fl, rfl, ⟨_, SqL.of (e2 _ _ hfl)⟩, ?_⟩
  refine Qb8 (xs := fs.map V.str) (fun j ys H2 => ys = ((fs.take j).map fun h => -held R h f).map V.int ∧ Same (upd H1 t (.tup [.int (i : Int), .str f])) H2) ⟨rfl, fun _ _ h => h⟩ (by omega) ?_ ?_ ?_
  ·rintro j ys H2 hj ⟨rfl, e3⟩
   refine ⟨SqL.of (e3 _ _ (e2 _ _ hfl)), ?_⟩
   rw [List.length_map, List.length_map, List.length_take]
   omega
  ·rintro j x ys H2 hx2 ⟨rfl, e3⟩
   obtain ⟨h, hh, rfl⟩ := Qbq hx2
   refine ⟨_, rfl, _, rfl, _, rfl, l, R, h, f, gs, es, rfl, e3 _ _ (e2 _ _ hl), (hR.same e2).same e3, hlen, fun H3 e4 => ⟨_, rfl, ?_, e3.trans e4⟩⟩
   rw [Qat hh, List.map_append, List.map_append]
   rfl
  rintro ys H2 ⟨rfl, e3⟩ n hn
  rw [lfm, List.take_length]
  have hnl : (fs.map fun h => -held R h f).length = fs.length := List.length_map ..
  have f1 := Qae (o := .lst ((fs.map fun h => -held R h f).map V.int)) hn
  have hx := Qjw (ws := fs.map fun h => -held R h f) (n := i) (by omega)
  have e23 := e2.trans e3
  have e2f := e23.trans f1
  refine ⟨_, rfl, _, rfl, .inl ⟨n, _, _, _, rfl, rfl, SqL.of Qab, hx, _, rfl, _, rfl, l, R, f, gs, es, rfl, e2f _ _ hl, hR.same e2f, hlen, fun H3 e4 => ⟨_, _, rfl, rfl, _, rfl, _, rfl, n, _, _, _, rfl, rfl, e4 _ _ Qab, Qm4 (by rw [List.length_map]; omega), ?_⟩⟩⟩
  have nn : H n = none := e23.free hn
  have hp2 := e3 _ _ (et _ _ hpp)
  have nnp : n ≠ p := fun w => by
   rw [w, hp2] at hn
   cases hn
  have hp3 := e4 _ _ (f1 _ _ hp2)
  have hset : (((fs.map fun h => -held R h f).map V.int).set i (V.int ((fs.map fun h => -held R h f).getD i 0 + alls R f))) = (dueR fs R f).map V.int := by
   rw [← Qnh hnd hf, List.map_set]
  refine ⟨_, rfl, .inl ⟨rfl, _, SqL.of (by rw [Qah (Ne.symm nnp)]; exact hp3)⟩, _, rfl, p, _, _, rfl, rfl, (by rw [Qah (Ne.symm nnp)]; exact hp3), (by rw [Qbg]; omega), ?_⟩
  refine ⟨_, _, _, Z ++ [(n, dueR fs R f)], rfl, Qbb (Qbb (e2f.trans e4) nn) hp, (by rw [Qab, Qcy]; rfl), fun z hz => ?_, fun z hz => ?_, ?_, ?_⟩
  ·rcases List.mem_append.mp hz with w | w
   ·have h0 := e3 _ _ (et _ _ (hZ z w))
    have nzn : z.1 ≠ n := fun u => by
     rw [← u, h0] at hn
     cases hn
    rw [Qah (hZ0 z w).2, Qah nzn]
    exact e4 _ _ (f1 _ _ h0)
   ·rw [List.mem_singleton.mp w, Qah nnp, Qab]
    show some (HO.lst _) = some (HO.lst _)
    rw [← hset]
  ·rcases List.mem_append.mp hz with w | w
   ·exact hZ0 z w
   ·rw [List.mem_singleton.mp w]
    exact ⟨nn, nnp⟩
  ·rw [List.map_append]
   refine List.nodup_append.mpr ⟨hZn, by simp, fun y hy y2 hy2 => ?_⟩
   obtain ⟨z, hz, rfl⟩ := List.mem_map.mp hy
   rw [List.mem_singleton.mp hy2]
   intro u
   have h0 := e3 _ _ (et _ _ (hZ z hz))
   rw [show z.1 = n from u, hn] at h0
   cases h0
  ·rw [Qat hf, List.map_append, List.map_append, hZv]
   rfl
 rintro σ H1 ⟨o3, o4, o5, Z, rfl, e, hpp, hZ, hZ0, hZn, hZv⟩
 rw [lfm, List.take_length] at hZv
 exact ⟨_, rfl, q p Z _ e hp hpp hZ hZ0 hZn hZv⟩
structure Tb (fs : List Str) (R : List Rw) : Prop where
 nd : fs.Nodup
 l6 : fs.length ≤ 6
 rl : R.length ≤ 62
 inn : ∀ z ∈ R, z.2.2.1 ∈ fs
 s1 : ∀ z ∈ R, 1 ≤ z.2.2.2
 s2 : ∀ z ∈ R, z.2.2.2 ≤ 1000000
 rk : Rk fs R
inductive Led (fs : List Str) (R : List Rw) : Str → Prop
 | st {z : Rw} : z ∈ R → z.2.1 ∉ fs → Led fs R z.2.2.1
 | fm {z : Rw} : z ∈ R → Led fs R z.2.1 → Led fs R z.2.2.1
theorem Qiv {fs : List Str} {R : List Rw} {D : List (Str × Int)} {n : Nat} (L : LI fs R D n) (h0 : fnd fs R D = []) {f : Str} (hf : f ∈ fs) : f ∈ D.map (·.1) ↔ Led fs R f := by
 constructor
 ·intro h
  obtain ⟨⟨g, k⟩, hp, e⟩ := List.mem_map.mp h
  have key : ∀ (N : Nat) (f : Str) (k : Int), k.toNat < N → (f, k) ∈ D → Led fs R f := by
   intro N
   induction N with
   | zero => exact fun f k h => absurd h (Nat.not_lt_zero _)
   | succ N ih =>
     intro f k hk hm
     rcases L.lvl f k hm with ⟨_, z, hz, h1, h2⟩ | ⟨a1, _, ⟨z, hz, h1, h2⟩, _⟩
     ·rw [← h1]
      exact .st hz h2
     ·rw [← h1]
      exact .fm hz (ih z.2.1 (k - 1) (by omega) h2)
  have e : g = f := e
  rw [← e]
  exact key _ g k (Nat.lt_succ_self _) hp
 ·intro h
  induction h with
  | @st z hz hn =>
    refine Decidable.byContradiction fun w => ?_
    have : z.2.2.1 ∈ fnd fs R D := Qdg.mpr ⟨hf, w, z, hz, rfl, .inl hn⟩
    rw [h0] at this
    cases this
  | @fm z hz hl ih =>
    refine Decidable.byContradiction fun w => ?_
    have : z.2.2.1 ∈ fnd fs R D := Qdg.mpr ⟨hf, w, z, hz, rfl, by
     by_cases c : z.2.1 ∈ fs
     ·exact .inr (ih c)
     ·exact .inl c⟩
    rw [h0] at this
    cases this
def Rg (fs : List Str) (R : List Rw) (zs : List Str) : Prop := zs.Pairwise (fun a b => ltS a b = true) ∧ ∀ x, x ∈ zs ↔ x ∈ fs ∧ ¬ Led fs R x
theorem Qmy {xs ys : List Str} (h1 : xs.Pairwise (fun a b => ltS a b = true)) (h2 : ys.Pairwise (fun a b => ltS a b = true)) (m : ∀ x, x ∈ xs ↔ x ∈ ys) : xs = ys := Qko ((List.perm_ext_iff_of_nodup (Qdp h1) (Qdp h2)).mpr m) h1 h2
theorem Rg.uniq {fs : List Str} {R : List Rw} {xs ys : List Str} (h1 : Rg fs R xs) (h2 : Rg fs R ys) : xs = ys := Qmy h1.1 h2.1 fun x => (h1.2 x).trans (h2.2 x).symm
theorem rg_of {fs : List Str} {R : List Rw} {D : List (Str × Int)} {n : Nat} {zs : List Str} (L : LI fs R D n) (h0 : fnd fs R D = []) (pm : zs.Perm (ringL fs D)) (pw : zs.Pairwise (fun a b => ltS a b = true)) : Rg fs R zs := by
 refine ⟨pw, fun x => ?_⟩
 rw [pm.mem_iff, Qe8]
 constructor
 ·rintro ⟨a, b⟩
  exact ⟨a, fun w => b ((Qiv L h0 a).mpr w)⟩
 ·rintro ⟨a, b⟩
  exact ⟨a, fun w => b ((Qiv L h0 a).mp w)⟩
theorem lv_mem {D : List (Str × Int)} (hn : (D.map (·.1)).Nodup) {x : Str} {j : Int} (h : (x, j) ∈ D) : lv D x = some j := by
 induction D with
 | nil => cases h
 | cons p D ih =>
   obtain ⟨a, b⟩ := p
   rw [List.map_cons] at hn
   obtain ⟨h1, h2⟩ := List.nodup_cons.mp hn
   unfold lv at ih ⊢
   rcases List.mem_cons.mp h with e | e
   ·cases e
    simp [List.lookup]
   ·have hx : (x == a) = false := by
     simp only [beq_eq_false_iff_ne]
     rintro rfl
     exact h1 (List.mem_map.mpr ⟨_, e, rfl⟩)
    rw [List.lookup, hx]
    exact ih h2 e
theorem rk_led {fs : List Str} {R : List Rw} {D : List (Str × Int)} {n : Nat} (L : LI fs R D n) (h : ringL fs D = []) : Rk fs R := by
 refine ⟨fun x => ((lv D x).getD 0).toNat, fun f hf => ?_⟩
 have hk : f ∈ D.map (·.1) := Decidable.byContradiction fun w => by
  have : f ∈ ringL fs D := Qe8.mpr ⟨hf, w⟩
  rw [h] at this
  cases this
 obtain ⟨⟨g, k⟩, hp, e⟩ := List.mem_map.mp hk
 have e : g = f := e
 subst e
 have look : ∀ {x : Str} {j : Int}, (x, j) ∈ D → lv D x = some j := fun {x j} hx => lv_mem L.nd hx
 rcases L.lvl g k hp with ⟨_, z, hz, h1, h2⟩ | ⟨a1, _, ⟨z, hz, h1, h2⟩, _⟩
 ·exact ⟨z, hz, h1, .inl h2⟩
 ·refine ⟨z, hz, h1, .inr ?_⟩
  show ((lv D z.2.1).getD 0).toNat < ((lv D g).getD 0).toNat
  rw [look hp, look h2]
  show (k - 1).toNat < k.toNat
  omega
inductive Rf
 | firm (s : Str)
 | amt (x : Int)
 | held (s : Str)
 | ring (zs : List Str)
def b1 (fs : List Str) (z : Rw) : Bool := decide (z.2.2.1 ∉ fs)
def b2 (z : Rw) : Bool := decide (z.2.2.2 < 1)
def b3 (R : List Rw) (f : Str) : Bool := decide (f ∉ R.map (·.2.2.1))
def rfs (fs : List Str) (R : List Rw) (zs : List Str) : Option Rf :=
 match R.find? (b1 fs) with
 | some z => some (.firm z.2.2.1)
 | none => match R.find? b2 with
   | some z => some (.amt z.2.2.2)
   | none => match fs.find? (b3 R) with
     | some f => some (.held f)
     | none => if zs = [] then none else some (.ring zs)
def fX (n : Str) (v : V) : List (Str × V) := putF n v []
def Told (C1 C2 C3 C4 : Addr) (H : Hp) (Ex : XK) : Rf → Prop
 | .firm s => ∀ d H', Same H H' → H d = none → H' d = some (.xd (fX "name" (.str s))) → Ex (.ref C1) (some d) H'
 | .amt x => ∀ d H', Same H H' → H d = none → H' d = some (.xd (fX "amount" (.int x))) → Ex (.ref C2) (some d) H'
 | .held s => ∀ d H', Same H H' → H d = none → H' d = some (.xd (fX "firm" (.str s))) → Ex (.ref C3) (some d) H'
 | .ring zs => ∀ d l H', Same H H' → H d = none → H l = none → H' d = some (.xd (fX "ring" (.ref l))) → H' l = some (.lst (zs.map V.str)) → Ex (.ref C4) (some d) H'
theorem Told.mono {C1 C2 C3 C4 : Addr} {H H1 : Hp} {Ex : XK} {r : Rf} (e : Same H H1) (h : Told C1 C2 C3 C4 H Ex r) : Told C1 C2 C3 C4 H1 Ex r := by
 cases r with
 | firm s => exact fun d H' e2 h1 h2 => h d H' (e.trans e2) (e.free h1) h2
 | amt s => exact fun d H' e2 h1 h2 => h d H' (e.trans e2) (e.free h1) h2
 | held s => exact fun d H' e2 h1 h2 => h d H' (e.trans e2) (e.free h1) h2
 | ring s => exact fun d l H' e2 h1 h2 h3 h4 => h d l H' (e.trans e2) (e.free h1) (e.free h2) h3 h4
structure Tx (fs : List Str) (R : List Rw) (zs : List Str) : Prop where
 nd : fs.Nodup
 l6 : fs.length ≤ 6
 rl : R.length ≤ 62
 s2 : ∀ z ∈ R, z.2.2.2 ≤ 1000000
 rg : Rg fs R zs
def spChkE (C1 C2 C3 C4 : Addr) : Sp := fun vs H Q Ex => ∃ (fl l : Addr) (fs : List Str) (R : List Rw) (zs gs es : List Str), vs = [.ref fl, .ref l] ∧ H fl = some (.lst (fs.map V.str)) ∧ H l = some (.lst (rfw R)) ∧ RX H gs es R ∧ Tx fs R zs ∧ (rfs fs R zs = none → Tb fs R → ∀ H', Same H H' → Q .non H') ∧ ∀ r, rfs fs R zs = some r → Told C1 C2 C3 C4 H Ex r
def spXV (C : Addr) (n : Str) : Sp := fun vs H Q _ => ∃ (x : Addr) (v : V), vs = [.ref x, v] ∧ H x = some (bareO x (.ref C) none) ∧ ∀ d H', H d = none → d ≠ x → H' d = some (.xd (fX n v)) → H' x = some (bareO x (.ref C) (some d)) → (∀ y o, H y = some o → y ≠ x → H' y = some o) → Q .non H'
def spXL (C : Addr) (n : Str) : Sp := fun vs H Q _ => ∃ (x a : Addr) (r : List V), vs = [.ref x, .ref a] ∧ H x = some (bareO x (.ref C) none) ∧ H a = some (.lst r) ∧ ∀ d l H', H d = none → d ≠ x → H l = none → l ≠ x → H' d = some (.xd (fX n (.ref l))) → H' l = some (.lst r) → H' x = some (bareO x (.ref C) (some d)) → (∀ y o, H y = some o → y ≠ x → H' y = some o) → Q .non H'
theorem Qc4 {α : Type} {p : α → Bool} : ∀ {xs : List α} {i : Nat} {a : α}, (∀ y ∈ xs.take i, p y = false) → xs[i]? = some a → p a = true → xs.find? p = some a
 | [], i, a, _, h, _ => by simp at h
 | x :: xs, 0, a, _, h, hp => by
   cases h
   simp [List.find?_cons, hp]
 | x :: xs, i + 1, a, h1, h2, hp => by
   have hx : p x = false := h1 x List.mem_cons_self
   rw [List.find?_cons, hx]
   exact Qc4 (fun y hy => h1 y (List.mem_cons_of_mem _ hy)) (by simpa using h2) hp
theorem Qch {α : Type} {p : α → Bool} {xs : List α} (h : ∀ y ∈ xs, p y = false) : xs.find? p = none := List.find?_eq_none.mpr fun y hy => by rw [h y hy]; decide
abbrev sab0 : Stmt := inClass (top 3) 0
theorem scab0 : FnScope ["self", "name"] ["self", "name"] (defScope sab0) := fsc
theorem okab0 {C_NoFirm : Addr} (X_NoFirm : XCls K C_NoFirm) (n_name : NoAttr K C_NoFirm "name") (D : DefX K C_NoFirm "NoFirm.__init__" sab0) : CalX P w K mg base true 1 C_NoFirm ["self", "name"] (spXV C_NoFirm "name") := by
 obtain ⟨f, fd, F, hfi, hfn⟩ := D
 refine ⟨f, fd, hfi, hfn, F.ok scab0 (fun vs H Q E h => ?_) (fun cdv A outer s H vs Q E hr h => ?_), (F.b2)⟩
 ·obtain ⟨x, v, rfl, hx, q⟩ := h
  rfl
 obtain ⟨x, v, rfl, hx, q⟩ := h
 have nd := scab0.nd
 refine ⟨_, (Qag (Qeo (pv 0) (pv 1) rfl)), ?_⟩
 refine ⟨_, rfl, _, rfl, x, C_NoFirm, rfl, X_NoFirm, n_name, .inl ⟨hx, fun d hd hdx => ?_⟩⟩
 refine q d _ hd hdx ?_ Qab fun y o hy hyx => ?_
 ·rw [Qah hdx]
  exact Qab
 ·have hyd : y ≠ d := Qai hy hd
  rw [Qah hyx, Qah hyd]
  exact hy
abbrev saa0 : Stmt := inClass (top 4) 0
theorem scaa0 : FnScope ["self", "amount"] ["self", "amount"] (defScope saa0) := fsc
theorem okaa0 {C_BadAmount : Addr} (X_BadAmount : XCls K C_BadAmount) (n_amount : NoAttr K C_BadAmount "amount") (D : DefX K C_BadAmount "BadAmount.__init__" saa0) : CalX P w K mg base true 1 C_BadAmount ["self", "amount"] (spXV C_BadAmount "amount") := by
 obtain ⟨f, fd, F, hfi, hfn⟩ := D
 refine ⟨f, fd, hfi, hfn, F.ok scaa0 (fun vs H Q E h => ?_) (fun cdv A outer s H vs Q E hr h => ?_), (F.b2)⟩
 ·obtain ⟨x, v, rfl, hx, q⟩ := h
  rfl
 obtain ⟨x, v, rfl, hx, q⟩ := h
 have nd := scaa0.nd
 refine ⟨_, (Qag (Qeo (pv 0) (pv 1) rfl)), ?_⟩
 refine ⟨_, rfl, _, rfl, x, C_BadAmount, rfl, X_BadAmount, n_amount, .inl ⟨hx, fun d hd hdx => ?_⟩⟩
 refine q d _ hd hdx ?_ Qab fun y o hy hyx => ?_
 ·rw [Qah hdx]
  exact Qab
 ·have hyd : y ≠ d := Qai hy hd
  rw [Qah hyx, Qah hyd]
  exact hy
abbrev sad0 : Stmt := inClass (top 5) 0
theorem scad0 : FnScope ["self", "firm"] ["self", "firm"] (defScope sad0) := fsc
theorem okad0 {C_Unheld : Addr} (X_Unheld : XCls K C_Unheld) (n_firm : NoAttr K C_Unheld "firm") (D : DefX K C_Unheld "Unheld.__init__" sad0) : CalX P w K mg base true 1 C_Unheld ["self", "firm"] (spXV C_Unheld "firm") := by
 obtain ⟨f, fd, F, hfi, hfn⟩ := D
 refine ⟨f, fd, hfi, hfn, F.ok scad0 (fun vs H Q E h => ?_) (fun cdv A outer s H vs Q E hr h => ?_), (F.b2)⟩
 ·obtain ⟨x, v, rfl, hx, q⟩ := h
  rfl
 obtain ⟨x, v, rfl, hx, q⟩ := h
 have nd := scad0.nd
 refine ⟨_, (Qag (Qeo (pv 0) (pv 1) rfl)), ?_⟩
 refine ⟨_, rfl, _, rfl, x, C_Unheld, rfl, X_Unheld, n_firm, .inl ⟨hx, fun d hd hdx => ?_⟩⟩
 refine q d _ hd hdx ?_ Qab fun y o hy hyx => ?_
 ·rw [Qah hdx]
  exact Qab
 ·have hyd : y ≠ d := Qai hy hd
  rw [Qah hyx, Qah hyd]
  exact hy
abbrev sac0 : Stmt := inClass (top 6) 0
theorem scac0 : FnScope ["self", "ring"] ["self", "ring"] (defScope sac0) := fsc
theorem okac0 {C_Ringed : Addr} (z_list : mg "list" = none) (X_Ringed : XCls K C_Ringed) (n_ring : NoAttr K C_Ringed "ring") (D : DefX K C_Ringed "Ringed.__init__" sac0) : CalX P w K mg base true 1 C_Ringed ["self", "ring"] (spXL C_Ringed "ring") := by
 obtain ⟨f, fd, F, hfi, hfn⟩ := D
 refine ⟨f, fd, hfi, hfn, F.ok scac0 (fun vs H Q E h => ?_) (fun cdv A outer s H vs Q E hr h => ?_), (F.b2)⟩
 ·obtain ⟨x, a, r, rfl, hx, ha, q⟩ := h
  rfl
 obtain ⟨x, a, r, rfl, hx, ha, q⟩ := h
 have nd := scac0.nd
 refine ⟨_, (Qag (Qeo (pv 0) (Qbt Qbm rfl z_list Qcm (Qaa (pv 1) Qad)) rfl)), ?_⟩
 refine ⟨_, rfl, a, _, rfl, .inl (SqL.of ha), fun l hl => ?_⟩
 have f := Qae (o := .lst r) hl
 have hlx : l ≠ x := fun z => by rw [z, hx] at hl; cases hl
 refine ⟨_, rfl, x, C_Ringed, rfl, X_Ringed, n_ring, .inl ⟨f _ _ hx, fun d hd hdx => ?_⟩⟩
 have hdl : d ≠ l := fun z => by rw [z, Qab] at hd; cases hd
 have hd0 : H d = none := by rw [Qah hdl] at hd; exact hd
 refine q d l _ hd0 hdx hl hlx ?_ ?_ ?_ fun y o hy hyx => ?_
 ·rw [Qah hdx]
  exact Qab
 ·rw [Qah hlx, Qah (Ne.symm hdl)]
  exact Qab
 ·exact Qab
 ·have hyd : y ≠ d := Qai hy hd0
  rw [Qah hyx, Qah hyd]
  exact f _ _ hy
theorem scat0 : FnScope ["firms", "rows", "firm", "ring", "holder", "shares"] ["firms", "rows"] (defScope sat0) := fsc
theorem okat0 (D : Def K mg "checked" sat0 .none) {C_BadAmount C_NoFirm C_Ringed C_Unheld : Addr} (cab0 : CalX P w K mg base true 1 C_NoFirm ["self", "name"] (spXV C_NoFirm "name")) (caa0 : CalX P w K mg base true 1 C_BadAmount ["self", "amount"] (spXV C_BadAmount "amount")) (cbh0 : Cal P w K mg base CX0 true 1 "owners_of" ["rows", "firm"] [] spOwn) (cad0 : CalX P w K mg base true 1 C_Unheld ["self", "firm"] (spXV C_Unheld "firm")) (cbk0 : Cal P w K mg base CX0 true 4 "ring_of" ["firms", "rows"] [] spRing) (cac0 : CalX P w K mg base true 1 C_Ringed ["self", "ring"] (spXL C_Ringed "ring")) (m_NoFirm : mg "NoFirm" = some (.ref C_NoFirm)) (m_BadAmount : mg "BadAmount" = some (.ref C_BadAmount)) (m_Unheld : mg "Unheld" = some (.ref C_Unheld)) (m_Ringed : mg "Ringed" = some (.ref C_Ringed)) (X_NoFirm : XCls K C_NoFirm) (X_BadAmount : XCls K C_BadAmount) (X_Unheld : XCls K C_Unheld) (X_Ringed : XCls K C_Ringed) : Cal P w K mg base (CX1 P w) true 5 "checked" ["firms", "rows"] [] (spChkE C_NoFirm C_BadAmount C_Unheld C_Ringed) := by
 obtain ⟨f, fd, F, hm⟩ := D
 obtain ⟨fab0, fdab0, i_NoFirm, fn_NoFirm, Gab0, bab0⟩ := cab0
 obtain ⟨faa0, fdaa0, i_BadAmount, fn_BadAmount, Gaa0, baa0⟩ := caa0
 obtain ⟨fbh0, fdbh0, dbh0, Gbh0, mbh0, kbh0, bbh0, vbh0, bbh01⟩ := cbh0
 obtain ⟨fad0, fdad0, i_Unheld, fn_Unheld, Gad0, bad0⟩ := cad0
 obtain ⟨fbk0, fdbk0, dbk0, Gbk0, mbk0, kbk0, bbk0, vbk0, bbk01⟩ := cbk0
 obtain ⟨fac0, fdac0, i_Ringed, fn_Ringed, Gac0, bac0⟩ := cac0
 refine ⟨f, fd, _, F.okX scat0 (fun vs H Q E h => ?_) (fun cdv A outer s H vs Q E hr h => ?_), hm, F.kp, (F.b2), .nil, F.b2⟩
 ·obtain ⟨fl, l, fs, R, zs, gs, es, rfl, hfl, hl, hR, T, q1, q2⟩ := h
  rfl
 obtain ⟨fl, l, fs, R, zs, gs, es, rfl, hfl, hl, hR, T, q1, q2⟩ := h
 have nd := scat0.nd
 refine ⟨_, (Qac (Qbh PassesOwn.leaving rfl (Qas (pv 1)) (Qec rfl (Qbi (Qar (i := 4) nd rfl (Or.inl rfl)) (Qbi (Qar (i := 2) nd rfl (Or.inl rfl)) (Qbi (Qar (i := 5) nd rfl (Or.inl rfl)) Qdc)))) (Qag (Qbo (Qao Qbr (pv 2) (pv 0) (by with_unfolding_all rfl)) (Qag (Qc5 rfl Qcs rfl m_NoFirm X_NoFirm i_NoFirm fn_NoFirm Gab0 (hr.mono (by decide)) bab0 (Qaa (pv 2) Qad))) Qaw)))
  (Qac (Qbh PassesOwn.leaving rfl (Qas (pv 1)) (Qec rfl (Qbi (Qar (i := 4) nd rfl (Or.inl rfl)) (Qbi (Qar (i := 2) nd rfl (Or.inl rfl)) (Qbi (Qar (i := 5) nd rfl (Or.inl rfl)) Qdc)))) (Qag (Qbo (Qao Qkj (pv 5) Qaf (nomark _)) (Qag (Qc5 rfl Qcs rfl m_BadAmount X_BadAmount i_BadAmount fn_BadAmount Gaa0 (hr.mono (by decide)) baa0 (Qaa (pv 5) Qad))) Qaw)))
  (Qac (Qbh PassesOwn.leaving rfl (Qas (pv 0)) (Qar (i := 2) nd rfl (Or.inl rfl)) (Qag (Qbo (Qao (Qkk hr) (Qak Gbh0 (hr.mono (by decide)) rfl mbh0 kbh0 bbh0 Paired.nil pass0 (Qaa (pv 1) (Qaa (pv 2) Qad))) (Qba Qad) (nomark _)) (Qag (Qc5 rfl Qcs rfl m_Unheld X_Unheld i_Unheld fn_Unheld Gad0 (hr.mono (by decide)) bad0 (Qaa (pv 2) Qad))) Qaw)))
  (Qac (Qaj (i := 3) nd rfl (Or.inl rfl) (Qak Gbk0 (hr.mono (by decide)) rfl mbk0 kbk0 bbk0 Paired.nil pass0 (Qaa (pv 0) (Qaa (pv 1) Qad))))
  (Qag (Qbo (Qao (Qdn hr) (pv 3) (Qba Qad) (nomark _)) (Qag (Qc5 rfl Qcs rfl m_Ringed X_Ringed i_Ringed fn_Ringed Gac0 (hr.mono (by decide)) bac0 (Qaa (pv 3) Qad))) Qaw)))))), ?_⟩
 have hline : 10 ^ 6 ≤ sizeLine := by decide
 obtain ⟨hnd, h6, hlen, hs2, hrg⟩ := T
 have lfm : (fs.map V.str).length = fs.length := List.length_map ..
 refine ⟨_, rfl, l, rfl, ⟨_, SqL.of hl⟩, ?_⟩
 refine Qb2 (xs := rfw R) (fun i σ H' => ∃ (o2 o3 o4 : Option V), σ = [some (.ref fl), some (.ref l), o3, none, o2, o4] ∧ H' = H ∧ ∀ y ∈ R.take i, b1 fs y = false) ⟨_, _, _, rfl, rfl, fun y hy => nomatch hy⟩ ?_ ?_ ?_
 ·rintro i σ H1 hi ⟨o2, o3, o4, rfl, rfl, _⟩
  exact SqL.of hl
 ·rintro i x σ H1 hx ⟨o2, o3, o4, rfl, rfl, hn⟩
  obtain ⟨y, hy, rfl⟩ := Qci hx
  have hym := List.mem_of_getElem? hy
  have hTy := SqT.of (K := K) (hR y hym).1
  refine ⟨y.1, _, rfl, hTy, rfl, _, _, rfl, _, _, rfl, _, _, rfl, rfl, ?_⟩
  refine ⟨_, rfl, _, rfl, fl, _, rfl, .inl (SqL.of hfl), rfl, Qbf _, _, rfl, ?_⟩
  rw [Qby]
  refine ndec2 (fun h => ?_) (fun h => ?_)
  ·have hf := Qc4 hn hy (decide_eq_true h)
   have hr : rfs fs R zs = some (.firm y.2.2.1) := by
    unfold rfs
    rw [hf]
   have q2 := q2 _ hr
   refine ⟨_, rfl, ?_⟩
   refine ⟨(by show 1 ≤ sizeLine; decide), True.intro, fun x hx0 => ⟨x, _, rfl, Qab, fun d H' hd hdx h1 h3 keep => ⟨rfl, some d, h3, ?_⟩⟩⟩
   have hd0 : H1 d = none := by
    rw [Qah hdx] at hd
    exact hd
   exact q2 d _ (Qe2 hx0 keep) hd0 (by show (if d = x then none else H' d) = _; rw [if_neg hdx]; exact h1)
  ·refine ⟨_, _, _, rfl, rfl, fun w hw => ?_⟩
   rw [Qat hy] at hw
   rcases List.mem_append.mp hw with c | c
   ·exact hn w c
   ·rw [List.mem_singleton.mp c]
    exact decide_eq_false fun w => w h
 rintro σ H1 ⟨o2, o3, o4, rfl, rfl, hn1⟩
 rw [Qay, List.take_length] at hn1
 have hr1 := Qch hn1
 refine ⟨_, rfl, l, rfl, ⟨_, SqL.of hl⟩, ?_⟩
 refine Qb2 (xs := rfw R) (fun i σ H' => ∃ (o2 o3 o4 : Option V), σ = [some (.ref fl), some (.ref l), o3, none, o2, o4] ∧ H' = H1 ∧ ∀ y ∈ R.take i, b2 y = false) ⟨_, _, _, rfl, rfl, fun y hy => nomatch hy⟩ ?_ ?_ ?_
 ·rintro i σ H2 hi ⟨o2, o3, o4, rfl, rfl, _⟩
  exact SqL.of hl
 ·rintro i x σ H2 hx ⟨o2, o3, o4, rfl, rfl, hn⟩
  obtain ⟨y, hy, rfl⟩ := Qci hx
  have hym := List.mem_of_getElem? hy
  have hTy := SqT.of (K := K) (hR y hym).1
  refine ⟨y.1, _, rfl, hTy, rfl, _, _, rfl, _, _, rfl, _, _, rfl, rfl, ?_⟩
  refine ⟨_, rfl, _, _, rfl, rfl, _, rfl, ?_⟩
  refine dec2 (fun h => ?_) (fun h => ?_)
  ·have hf := Qc4 hn hy (decide_eq_true h)
   have q2 := q2 (.amt y.2.2.2) (by simp only [rfs, hr1, hf])
   refine ⟨_, rfl, ?_⟩
   refine ⟨(by show 1 ≤ sizeLine; decide), True.intro, fun x hx0 => ⟨x, _, rfl, Qab, fun d H' hd hdx h1 h3 keep => ⟨rfl, some d, h3, ?_⟩⟩⟩
   have hd0 : H2 d = none := by
    rw [Qah hdx] at hd
    exact hd
   exact q2 d _ (Qe2 hx0 keep) hd0 (by show (if d = x then none else H' d) = _; rw [if_neg hdx]; exact h1)
  ·refine ⟨_, _, _, rfl, rfl, fun w hw => ?_⟩
   rw [Qat hy] at hw
   rcases List.mem_append.mp hw with c | c
   ·exact hn w c
   ·rw [List.mem_singleton.mp c]
    exact decide_eq_false h
 rintro σ H2 ⟨o2, o3, o4, rfl, rfl, hn2⟩
 rw [Qay, List.take_length] at hn2
 have hr2 := Qch hn2
 refine ⟨_, rfl, fl, rfl, ⟨_, SqL.of hfl⟩, ?_⟩
 refine Qb2 (xs := fs.map V.str) (fun i σ H' => ∃ (o2 o3 o4 : Option V), σ = [some (.ref fl), some (.ref l), o3, none, o2, o4] ∧ Same H2 H' ∧ ∀ y ∈ fs.take i, b3 R y = false) ⟨_, _, _, rfl, Qa0 _, fun y hy => nomatch hy⟩ ?_ ?_ ?_
 ·rintro i σ H3 hi ⟨o2, o3, o4, rfl, e3, _⟩
  exact SqL.of (e3 _ _ hfl)
 ·rintro i x σ H3 hx ⟨o2, o3, o4, rfl, e3, hn⟩
  obtain ⟨f, hf, rfl⟩ := Qbq hx
  refine ⟨_, rfl, _, rfl, l, R, f, gs, es, rfl, e3 _ _ hl, hR.same e3, hlen, fun p os H4 e4 hp0 hp mm pw => ⟨(by show 0 ≤ sizeLine; decide), fun l0 hl0 => ?_⟩⟩
  have f5 := Qae (o := .lst []) hl0
  have e5 := (e3.trans e4).trans f5
  refine ⟨p, l0, _, _, rfl, rfl, SqL.of (f5 _ _ hp), SqL.of Qab, ?_⟩
  cases os with
  | nil =>
    refine .inr ⟨⟨rfl, fun j x y h => nomatch h⟩, _, rfl, iteT ?_⟩
    have hb : b3 R f = true := decide_eq_true fun w => by
     obtain ⟨z, hz, e⟩ := List.mem_map.mp w
     exact nomatch (mm z.2.1).mpr ⟨z, hz, e, rfl⟩
    have q2 := (q2 (.held f) (by simp only [rfs, hr1, hr2, Qc4 hn hf hb])).mono e5
    refine ⟨_, rfl, ?_⟩
    refine ⟨(by show 1 ≤ sizeLine; decide), True.intro, fun x hx0 => ⟨x, _, rfl, Qab, fun d H' hd hdx h1 h3 keep => ⟨rfl, some d, h3, ?_⟩⟩⟩
    have hd0 : upd H4 l0 (.lst []) d = none := by
     rw [Qah hdx] at hd
     exact hd
    exact q2 d _ (Qe2 hx0 keep) hd0 (by show (if d = x then none else H' d) = _; rw [if_neg hdx]; exact h1)
  | cons o os =>
    refine .inl ⟨by simp, _, rfl, iteF ⟨_, _, _, rfl, e5, fun w hw => ?_⟩⟩
    rw [Qat hf] at hw
    rcases List.mem_append.mp hw with c | c
    ·exact hn w c
    ·rw [List.mem_singleton.mp c]
     obtain ⟨z, hz, h1, _⟩ := (mm o).mp List.mem_cons_self
     exact decide_eq_false fun w => w (List.mem_map.mpr ⟨z, hz, h1⟩)
 rintro σ H3 ⟨o2, o3, o4, rfl, e3, hn3⟩
 rw [lfm, List.take_length] at hn3
 have hr3 := Qch hn3
 refine ⟨_, rfl, _, rfl, fl, l, fs, R, gs, es, rfl, e3 _ _ hfl, hnd, by omega, e3 _ _ hl, hR.same e3, hlen, fun p ys D n H4 e4 hp0 hp LI1 hf1 pm pw => ?_⟩
 have ez : ys = zs := (rg_of LI1 hf1 pm pw).uniq hrg
 subst ez
 refine ⟨_, rfl, (by show 0 ≤ sizeLine; decide), fun l0 hl0 => ?_⟩
 have f5 := Qae (o := .lst []) hl0
 have e5 := (e3.trans e4).trans f5
 refine ⟨p, l0, _, _, rfl, rfl, SqL.of (f5 _ _ hp), SqL.of Qab, ?_⟩
 cases hys : ys with
 | nil =>
   refine .inr ⟨⟨rfl, fun j x y h => nomatch h⟩, _, rfl, iteF ?_⟩
   rw [hys] at pm q1
   refine q1 (by simp only [rfs, hr1, hr2, hr3]; rfl) ⟨hnd, h6, hlen, fun z hz => ?_, fun z hz => ?_, hs2, rk_led LI1 pm.nil_eq.symm⟩ _ e5
   ·exact Decidable.byContradiction fun w => by
     have := hn1 z hz
     rw [show b1 fs z = true from decide_eq_true w] at this
     cases this
   ·refine Decidable.byContradiction fun w => ?_
    have := hn2 z hz
    rw [show b2 z = true from decide_eq_true (by omega)] at this
    cases this
 | cons y0 yr =>
   refine .inl ⟨by simp, _, rfl, iteT ?_⟩
   have q2 := (q2 (.ring ys) (by simp only [rfs, hr1, hr2, hr3]; rw [if_neg (by rw [hys]; simp)])).mono e5
   have hp5 := f5 _ _ hp
   refine ⟨_, rfl, ?_⟩
   refine ⟨(by show 1 ≤ sizeLine; decide), True.intro, fun x hx0 => ⟨x, p, ys.map V.str, rfl, Qab, ?_, fun d l H' hd hdx hl hlx h1 h2 h3 keep => ⟨rfl, some d, h3, ?_⟩⟩⟩
   ·have n1 : p ≠ x := Qai hp5 hx0
    rw [Qah n1]
    exact hp5
   ·rw [Qah hdx] at hd
    rw [Qah hlx] at hl
    exact q2 d l _ (Qe2 hx0 keep) hd hl (by show (if d = x then none else H' d) = _; rw [if_neg hdx]; exact h1) (by show (if l = x then none else H' l) = _; rw [if_neg hlx]; exact h2)
def spCkp (C1 C2 C3 C4 : Addr) : Sp := fun vs H Q Ex => ∃ (fl l : Addr) (fs : List Str) (R : List Rw) (zs gs es : List Str), vs = [.ref fl, .ref l] ∧ H fl = some (.lst (fs.map V.str)) ∧ H l = some (.lst (rfw R)) ∧ RX H gs es R ∧ Tx fs R zs ∧ (∀ r, rfs fs R zs = some r → Told C1 C2 C3 C4 H Ex r) ∧ (rfs fs R zs = none → Tb fs R →
 ∀ (t : Addr) (Y : List Pr) H', Same H H' → H' t = some (.lst (rfp Y)) → PP H' Y → prs Y = pap (fs.map (dueR fs R)) → H t = none → Q (.ref t) H')
theorem scau0 : FnScope ["firms", "rows"] ["firms", "rows"] (defScope sau0) := fsc
theorem okau0 (D : Def K mg "checked_paper" sau0 .none) {C_BadAmount C_NoFirm C_Ringed C_Unheld : Addr} (cat0 : Cal P w K mg base (CX1 P w) true 5 "checked" ["firms", "rows"] [] (spChkE C_NoFirm C_BadAmount C_Unheld C_Ringed)) (cbj0 : Cal P w K mg base CX0 true 5 "paper_of" ["square"] [] spPapN) (cbm0 : Cal P w K mg base CX0 true 2 "square_of" ["firms", "rows"] [] spSq) : Cal P w K mg base (CX1 P w) true 6 "checked_paper" ["firms", "rows"] [] (spCkp C_NoFirm C_BadAmount C_Unheld C_Ringed) := by
 obtain ⟨f, fd, F, hm⟩ := D
 obtain ⟨fat0, fdat0, dat0, Gat0, mat0, kat0, bat0, vat0, bat01⟩ := cat0
 obtain ⟨fbj0, fdbj0, dbj0, Gbj0, mbj0, kbj0, bbj0, vbj0, bbj01⟩ := cbj0
 obtain ⟨fbm0, fdbm0, dbm0, Gbm0, mbm0, kbm0, bbm0, vbm0, bbm01⟩ := cbm0
 refine ⟨f, fd, _, F.okX scau0 (fun vs H Q E h => ?_) (fun cdv A outer s H vs Q E hr h => ?_), hm, F.kp, (F.b2), .nil, F.b2⟩
 ·obtain ⟨fl, l, fs, R, zs, gs, es, rfl, hfl, hl, hR, TX, q2, q⟩ := h
  rfl
 obtain ⟨fl, l, fs, R, zs, gs, es, rfl, hfl, hl, hR, TX, q2, q⟩ := h
 have nd := scau0.nd
 refine ⟨_, (Qac (Qa9 (Qbu Gat0 (hr.mono (by decide)) rfl mat0 kat0 bat0 Paired.nil Qcs (Qaa (pv 0) (Qaa (pv 1) Qad))))
  (Qag (Qaq (Qak Gbj0 (hr.mono (by decide)) rfl mbj0 kbj0 bbj0 Paired.nil pass0 (Qaa (Qak Gbm0 (hr.mono (by decide)) rfl mbm0 kbm0 bbm0 Paired.nil pass0 (Qaa (pv 0) (Qaa (pv 1) Qad))) Qad))))), ?_⟩
 refine ⟨_, rfl, _, rfl, True.intro, fl, l, fs, R, zs, gs, es, rfl, hfl, hl, hR, TX, fun hn T H1 e1 => ?_, q2⟩
 refine ⟨_, rfl, _, rfl, fl, l, fs, R, gs, es, rfl, e1 _ _ hfl, T.nd, by have := T.l6; omega, e1 _ _ hl, hR.same e1, by have := T.rl; omega, fun p Z H2 e2 hp0 hp hZ hZ0 hZn hZv => ?_⟩
 have lz : Z.length = fs.length := by
  have := congrArg List.length hZv
  rw [List.length_map, List.length_map] at this
  exact this
 have sq := Qlx (fs := fs) T.s1 T.s2 T.rl
 refine ⟨p, Z, 26, rfl, hp, hZ, ⟨by show N45.Squ (Z.map (·.2)) 26; rw [hZv]; exact sq, by rw [lz]; exact T.l6, by rw [lz]; exact ex26 T.l6⟩, ?_, fun t Y H3 e3 ht hY hYv ht0 _ => ?_⟩
 ·have := N45.Qhx sq (Qjk T.nd T.s1 T.rk)
  rw [List.length_map] at this
  show (N45.trn (Z.map (·.2)) Z.length).2 = []
  rw [hZv, lz]
  exact this
 ·refine q hn T t Y _ ((e1.trans e2).trans e3) ht hY ?_ ((e1.trans e2).free ht0)
  rw [hYv]
  show pap (Z.map (·.2)) = _
  rw [hZv]
def frc (t b : Int) : Int × Int := (Int.fdiv t (N11.gF t b), Int.fdiv b (N11.gF t b))
theorem Qlv {t b : Int} (hb : 1 ≤ b) : 1 ≤ (frc t b).2 ∧ (frc t b).2.natAbs ≤ b.natAbs ∧ (frc t b).1.natAbs ≤ t.natAbs ∧ N11.gF (frc t b).1 (frc t b).2 = 1 ∧ (frc t b).1 * b = t * (frc t b).2 := by
 have e : N11.dF t b = N11.gF t b := if_neg (by omega)
 have h := N11.lowD (t := t) (b := b) (by omega)
 rw [e] at h
 exact ⟨h.1, by have := h.1; have := h.2.1; show (Int.fdiv b (N11.gF t b)).natAbs ≤ _; omega, h.2.2.1, h.2.2.2.1, h.2.2.2.2⟩
theorem Qne {t b : Int} (hb : 1 ≤ b) : N11.gF t b ≠ 0 ∧ (N11.gF t b).natAbs ≤ b.natAbs := by
 have h := N11.dF_in (t := t) (b := b) (by omega)
 rw [show N11.dF t b = N11.gF t b from if_neg (by omega)] at h
 exact h
structure PapOk (S : List (List Int)) (Y : List (Int × List Int)) : Prop where
 len : Y.length = S.length
 ato : ∀ k y, Y[k]? = some y → 1 ≤ y.1 ∧ N45.Bt 1991 y.1 ∧ y.2.length = S.length ∧ (∀ x ∈ y.2, N45.Bt 1991 x) ∧ ∀ j < S.length, N45.mx S y.2 j = if j = k then y.1 else 0
theorem Qmf (r : List Int) (k : Nat) : (sgp r k).natAbs < 2 ^ 1 := by
 unfold sgp
 split <;> decide
theorem pap_ok {S : List (List Int)} {E : Nat} (hS : N45.Squ S E) (hE : N45.ex E S.length ≤ 1990) (hB : (N45.trn S S.length).2 = []) : PapOk S (pap S) := by
 obtain ⟨tl, tp⟩ := N45.Qhw hS hB
 refine ⟨by unfold pap; rw [List.length_map, List.length_range], fun k y hy => ?_⟩
 unfold pap at hy
 rw [List.getElem?_map] at hy
 have hk : k < S.length := by
  refine Classical.byContradiction fun c => ?_
  rw [List.getElem?_eq_none (by rw [List.length_range]; omega)] at hy
  cases hy
 rw [List.getElem?_range hk] at hy
 have ey : y = prF ((N45.trn S S.length).1.getD k []) k S.length := (Option.some.inj hy).symm
 have hg : (N45.trn S S.length).1[k]? = some ((N45.trn S S.length).1.getD k []) := by
  rw [List.getD_eq_getElem?_getD, List.getElem?_eq_getElem (by omega)]
  rfl
 obtain ⟨a1, a2, a3, _, a5, a6⟩ := tp k hk _ hg
 generalize (N45.trn S S.length).1.getD k [] = r at ey a1 a2 a3 a5 a6
 subst ey
 have a3 : ∀ x ∈ r, N45.Bt 1990 x := fun x hx => (a3 x hx).mono hE
 have hs := Qmf r k
 refine ⟨?_, ?_, ?_, ?_, fun j hj => ?_⟩
 ·show 1 ≤ sgp r k * N45.gt r k
  unfold sgp
  split <;> omega
 ·have := N45.Bt.mul (show N45.Bt 1 (sgp r k) from hs) (N45.Qe0 a3 k)
  exact this.mono (by decide)
 ·show ((r.drop S.length).map fun x => sgp r k * x).length = _
  rw [List.length_map, List.length_drop]
  omega
 ·intro x hx
  obtain ⟨u, hu, rfl⟩ := List.mem_map.mp hx
  have := N45.Bt.mul (show N45.Bt 1 (sgp r k) from hs) (a3 u (List.mem_of_mem_drop hu))
  exact this.mono (by decide)
 ·show N45.mx S ((r.drop S.length).map fun x => sgp r k * x) j = if j = k then sgp r k * N45.gt r k else 0
  rw [N45.Qir S _ _ (by rw [List.length_drop]; omega), ← a6 j hj]
  by_cases c : j = k
  ·rw [if_pos c, c]
  ·rw [if_neg c, a5 j hj c, Int.mul_zero]
def btm (Y : List (Int × List Int)) : Int := Y.foldr (fun y d => y.1 * d) 1
theorem Qjs : ∀ {Y : List (Int × List Int)}, (∀ y ∈ Y, 1 ≤ y.1) → 0 < btm Y
 | [], _ => by decide
 | y :: Y, h => Int.mul_pos (by have := h y List.mem_cons_self; omega) (Qjs fun z hz => h z (List.mem_cons_of_mem _ hz))
theorem Qjt : ∀ {Y : List (Int × List Int)} {y : Int × List Int}, y ∈ Y → y.1 ∣ btm Y
 | z :: Y, y, h => by
   show y.1 ∣ z.1 * btm Y
   rcases List.mem_cons.mp h with rfl | h
   ·exact Int.dvd_mul_right _ _
   ·exact Int.dvd_mul_of_dvd_right (Qjt h)
def tms (Y : List (Int × List Int)) (j : Nat) : List Int := (Y.getD j (1, [])).2.map fun x => btm Y / (Y.getD j (1, [])).1 * x
theorem Qf0 {S : List (List Int)} {Y : List (Int × List Int)} (h : PapOk S Y) : N45.Inv S (btm Y) (tms Y) := by
 have g : ∀ j < S.length, Y[j]? = some (Y.getD j (1, [])) := fun j hj => by
  rw [List.getD_eq_getElem?_getD, List.getElem?_eq_getElem (by rw [h.len]; exact hj)]
  rfl
 refine ⟨Qjs fun y hy => ?_, fun j hj => ?_, fun j hj i hi => ?_⟩
 ·obtain ⟨k, hk, e⟩ := List.getElem_of_mem hy
  exact (h.ato k y (by rw [← e]; exact List.getElem?_eq_getElem hk)).1
 ·unfold tms
  rw [List.length_map]
  exact (h.ato j _ (g j hj)).2.2.1
 ·obtain ⟨a1, _, a3, _, a5⟩ := h.ato j _ (g j hj)
  unfold tms
  rw [N45.Qir S _ _ a3, a5 i hi]
  by_cases c : i = j
  ·rw [if_pos c, if_pos c, Int.ediv_mul_cancel (Qjt (List.mem_of_getElem? (g j hj)))]
  ·rw [if_neg c, if_neg c, Int.mul_zero]
def spFrN : Sp := fun vs H Q _ => ∃ t b : Int, vs = [.int t, .int b] ∧ 1 ≤ b ∧ N45.Bt 4000 b ∧ ∀ p, H p = none → Q (.ref p) (upd H p (.tup [.int (frc t b).1, .int (frc t b).2]))
def spSP : Sp := fun vs H Q _ => ∃ (a b : Addr) (h r : List Int) (d : Int), vs = [.ref a, .int d, .ref b] ∧ H a = some (.lst (h.map V.int)) ∧ H b = some (.lst (r.map V.int)) ∧ h.length = r.length ∧ h.length ≤ 8 ∧ (∀ x ∈ h, N45.Bt 30 x) ∧ (∀ x ∈ r, N45.Bt 1991 x) ∧ 1 ≤ d ∧ N45.Bt 4000 d ∧ ∀ p H', Same H H' → Q (.ref p) H'
abbrev Fr := Addr × Int × Int
def rff (F : List Fr) : List V := F.map fun z => .ref z.1
theorem Qh9 (F : List Fr) : (rff F).length = F.length := List.length_map ..
theorem Qmk (A B : List Fr) : rff (A ++ B) = rff A ++ rff B := List.map_append ..
theorem rff_at {F : List Fr} {i : Nat} {x : V} (h : (rff F)[i]? = some x) : ∃ z, F[i]? = some z ∧ x = .ref z.1 := by
 unfold rff at h
 rw [List.getElem?_map] at h
 cases e : F[i]? with
 | none => rw [e] at h; cases h
 | some z => rw [e] at h; exact ⟨z, rfl, (Option.some.inj h).symm⟩
theorem at_rff {F : List Fr} {i : Nat} {z : Fr} (h : F[i]? = some z) : (rff F)[i]? = some (.ref z.1) := by
 unfold rff
 rw [List.getElem?_map, h]
 rfl
def FF (H : Hp) (F : List Fr) : Prop := ∀ z ∈ F, H z.1 = some (.tup [.int z.2.1, .int z.2.2])
theorem FF.same {H H' : Hp} {F : List Fr} (h : FF H F) (e : Same H H') : FF H' F := fun z hz => e _ _ (h z hz)
theorem FF.app {H : Hp} {A B : List Fr} (h1 : FF H A) (h2 : FF H B) : FF H (A ++ B) := fun z hz => (List.mem_append.mp hz).elim (h1 z) (h2 z)
theorem Qjj {R : List Rw} {fs : List Str} (T : Tb fs R) : PapOk (fs.map (dueR fs R)) (pap (fs.map (dueR fs R))) := by
 have sq := Qlx (fs := fs) T.s1 T.s2 T.rl
 exact pap_ok sq (by rw [List.length_map]; exact ex26 T.l6) (N45.Qhx sq (Qjk T.nd T.s1 T.rk))
def spLst (C1 C2 C3 C4 : Addr) : Sp := fun vs H Q Ex => ∃ (fl l : Addr) (fs : List Str) (R : List Rw) (zs gs es : List Str), vs = [.ref fl, .ref l] ∧ H fl = some (.lst (fs.map V.str)) ∧ H l = some (.lst (rfw R)) ∧ RX H gs es R ∧ Tx fs R zs ∧ (∀ r, rfs fs R zs = some r → Told C1 C2 C3 C4 H Ex r) ∧ (rfs fs R zs = none → Tb fs R → ∀ (t : Addr) (xs : List V) H', Same H H' → H' t = some (.lst xs) → (fs = [] → R = [] → xs = []) → Q (.ref t) H')
theorem Qjd {R : List Rw} {fs : List Str} (T : Tb fs R) (s f : Str) : N45.Bt 30 (held R s f) := by
 have a := Qf6 T.s1 s f
 have b := Qjc T.s1 T.s2 s f
 have c := T.rl
 unfold N45.Bt
 omega
theorem scaz0 : FnScope ["top", "bottom", "shared"] ["top", "bottom"] (defScope saz0) := fsc
theorem okaz0 {Taz0 : Addr} (D : Def K mg "fraction" saz0 (.ref Taz0)) {odaz0 : Option Addr} {naz0 : Nat} {slaz0 : Array Q5} {tkaz0 : Tok} (lTaz0 : K.lookup Taz0 = some ⟨.type "tuple", odaz0, .seq #[.int 1 tkaz0] naz0, slaz0⟩) (caw0 : Cal P w K mg base CX0 true 1 "divisor" ["one", "other"] [] spG) : Cal P w K mg base CX0 true 2 "fraction" ["top", "bottom"] [.int 1] spFrN := by
 obtain ⟨f, fd, F, hm⟩ := D
 obtain ⟨faw0, fdaw0, daw0, Gaw0, maw0, kaw0, baw0, vaw0, baw01⟩ := caw0
 refine ⟨f, fd, _, F.ok scaz0 (fun vs H Q E h => ?_) (fun cdv A outer s H vs Q E hr h => ?_), hm, F.kp, (F.bindsD (ds := []) lTaz0 2 rfl fun _ _ _ _ _ _ us hl => match us, hl with | [_, _], _ => ⟨_, rfl, rfl⟩), (.cons ⟨_, rfl⟩ .nil), F.bindsD (ds := [.int 1 tkaz0]) lTaz0 1 rfl fun _ _ _ _ _ _ us hl => match us, hl with | [_], _ => ⟨_, rfl, rfl⟩⟩
 ·obtain ⟨t, b, rfl, hb, hbt, q⟩ := h
  rfl
 obtain ⟨t, b, rfl, hb, hbt, q⟩ := h
 have nd := scaz0.nd
 refine ⟨_, (Qac (Qbo (Qao Qb4 (pv 1) Qaf (nomark _)) (Qag Qgu) Qaw)
  (Qac (Qaj (i := 2) nd rfl (Or.inl rfl) (Qak Gaw0 (hr.mono (by decide)) rfl maw0 kaw0 baw0 Paired.nil pass0 (Qaa (pv 0) (Qaa (pv 1) Qad))))
  (Qac (Qbo (Qao Qkj (pv 1) Qaf (nomark _)) (Qag (Qaj (i := 2) nd rfl (Or.inl rfl) (Qkg Qgh (pv 2)))) Qaw)
  (Qag (Qaq (Qbp (Qaa (Qal Qdo (pv 0) (pv 2)) (Qaa (Qal Qdo (pv 1) (pv 2)) Qad)))))))), ?_⟩
 obtain ⟨g0, g1⟩ := Qne (t := t) hb
 have g2 : (N11.gF t b).natAbs < 2 ^ 4000 := Nat.lt_of_le_of_lt g1 hbt
 refine ⟨_, rfl, rfl, _, rfl, decF (fun z => by have := V.int.inj z; omega) ?_⟩
 refine ⟨_, rfl, _, rfl, _, _, rfl, ?_⟩
 refine ⟨_, rfl, _, _, rfl, rfl, _, rfl, decF (by omega) ?_⟩
 exact ⟨_, rfl, _, rfl, _, _, rfl, rfl, logN g0 g2 (Nat.le_refl _), _, rfl, _, rfl, _, _, rfl, rfl, logN g0 g2 (Nat.le_refl _), (by show 2 ≤ sizeLine; decide), q⟩
theorem scbn0 : FnScope ["held", "d", "row"] ["held", "d", "row"] (defScope sbn0) := fsc
theorem okbn0 (D : Def K mg "stranger_part" sbn0 .none) (caz0 : Cal P w K mg base CX0 true 2 "fraction" ["top", "bottom"] [.int 1] spFrN) (z_sum : mg "sum" = none) (z_zip : mg "zip" = none) : Cal P w K mg base CX0 true 3 "stranger_part" ["held", "d", "row"] [] spSP := by
 obtain ⟨f, fd, F, hm⟩ := D
 obtain ⟨faz0, fdaz0, daz0, Gaz0, maz0, kaz0, baz0, vaz0, baz01⟩ := caz0
 refine ⟨f, fd, _, F.ok scbn0 (fun vs H Q E h => ?_) (fun cdv A outer s H vs Q E hr h => ?_), hm, F.kp, (F.b3), .nil, F.b3⟩
 ·obtain ⟨a, b, h, r, d, rfl, ha, hb, hl, h8, hbh, hbr, hd, hdb, q⟩ := h
  rfl
 obtain ⟨a, b, h, r, d, rfl, ha, hb, hl, h8, hbh, hbr, hd, hdb, q⟩ := h
 have nd := scbn0.nd
 refine ⟨_, (Qag (Qaq (Qak Gaz0 (hr.mono (by decide)) rfl maz0 kaz0 baz0 Paired.nil pass0 (Qaa (Qan (Qex hr) rfl z_sum Qju (Qaa (Qee (xs := ["shares", "number"]) [] rfl (LcOkT.plain (xs := ["shares", "number"]) (by decide+kernel) (by decide+kernel) rfl (by decide+kernel) (by decide+kernel) (by decide+kernel)) (Qlj rfl z_zip (Qaa (pv 0) (Qaa (pv 2) Qad))) (Qco rfl (LcOkT.plain (xs := ["shares", "number"]) (by decide+kernel) (by decide+kernel) rfl (by decide+kernel) (by decide+kernel) (by decide+kernel))) (fun C s2 H2 fp xe => (Qal Qaz (pv 0) (pv 1)))) Qad)) (Qaa (pv 1) Qad))))), ?_⟩
 have hline : 600 ≤ sizeLine := by decide
 have lh : (h.map V.int).length = h.length := List.length_map ..
 have lr : (r.map V.int).length = r.length := List.length_map ..
 refine ⟨_, rfl, _, rfl, a, b, rfl, ⟨_, SqL.of ha⟩, ⟨_, SqL.of hb⟩, ?_⟩
 refine Qlo (xs := h.map V.int) (ys := r.map V.int) (fun i zs H' => ∃ u : List Int, zs = u.map V.int ∧ u.length = i ∧ Same H H') ⟨[], rfl, rfl, Qa0 _⟩ (by omega) (by omega) ?_ ?_ ?_
 ·rintro i zs H' hi ⟨u, rfl, lu, e⟩
  exact ⟨SqL.of (e _ _ ha), SqL.of (e _ _ hb), by rw [List.length_map, lu]⟩
 ·rintro i x1 x2 zs H' t hx1 hx2 ⟨u, rfl, lu, e1⟩ ht σ0 h0
  obtain ⟨w1, hw1, rfl⟩ := Qc3 hx1
  obtain ⟨w2, hw2, rfl⟩ := Qc3 hx2
  obtain ⟨_, _, rfl⟩ := Qeb h0
  refine ⟨t, _, rfl, SqT.of Qab, rfl, _, _, rfl, _, _, rfl, rfl, [_, _], rfl, rfl, _, rfl, _, rfl, _, _, rfl, rfl, mulN (hbh _ (List.mem_of_getElem? hw1)) (hbr _ (List.mem_of_getElem? hw2)) (by omega) (by omega), u ++ [w1 * w2], by rw [List.map_append]; rfl, by rw [List.length_append, lu]; rfl, e1.trans (Qae ht)⟩
 rintro zs H' ⟨u, rfl, _, e⟩ k1 hk1
 exact ⟨k1, _, rfl, SqL.of Qab, _, rfl, _, _, rfl, hd, hdb, fun p hp => q p _ ((e.trans (Qae hk1)).trans (Qae hp))⟩
theorem scba0 : FnScope ["firms", "rows", "paper", "told", "stranger", "held"] ["firms", "rows"] (defScope sba0) := fsc
theorem okba0 (D : Def K mg "last_parts" sba0 .none) {C_BadAmount C_NoFirm C_Ringed C_Unheld : Addr} (cau0 : Cal P w K mg base (CX1 P w) true 6 "checked_paper" ["firms", "rows"] [] (spCkp C_NoFirm C_BadAmount C_Unheld C_Ringed)) (cbo0 : Cal P w K mg base CX0 true 1 "strangers_of" ["firms", "rows"] [] spStrg) (cbl0 : Cal P w K mg base CX0 true 1 "shares_of" ["rows", "holder", "firm"] [] spHeld) (cbn0 : Cal P w K mg base CX0 true 3 "stranger_part" ["held", "d", "row"] [] spSP) : Cal P w K mg base (CX1 P w) true 7 "last_parts" ["firms", "rows"] [] (spLst C_NoFirm C_BadAmount C_Unheld C_Ringed) := by
 obtain ⟨f, fd, F, hm⟩ := D
 obtain ⟨fau0, fdau0, dau0, Gau0, mau0, kau0, bau0, vau0, bau01⟩ := cau0
 obtain ⟨fbo0, fdbo0, dbo0, Gbo0, mbo0, kbo0, bbo0, vbo0, bbo01⟩ := cbo0
 obtain ⟨fbl0, fdbl0, dbl0, Gbl0, mbl0, kbl0, bbl0, vbl0, bbl01⟩ := cbl0
 obtain ⟨fbn0, fdbn0, dbn0, Gbn0, mbn0, kbn0, bbn0, vbn0, bbn01⟩ := cbn0
 refine ⟨f, fd, _, F.okX scba0 (fun vs H Q E h => ?_) (fun cdv A outer s H vs Q E hr h => ?_), hm, F.kp, (F.b2), .nil, F.b2⟩
 ·obtain ⟨fl, l, fs, R, zs, gs, es, rfl, hfl, hl, hR, TX, q2, q⟩ := h
  rfl
 obtain ⟨fl, l, fs, R, zs, gs, es, rfl, hfl, hl, hR, TX, q2, q⟩ := h
 have nd := scba0.nd
 refine ⟨_, (Qac (Qaj (i := 2) nd rfl (Or.inl rfl) (Qbu Gau0 (hr.mono (by decide)) rfl mau0 kau0 bau0 Paired.nil Qcs (Qaa (pv 0) (Qaa (pv 1) Qad))))
  (Qac (Qaj (i := 3) nd rfl (Or.inl rfl) (Qba Qad))
  (Qac (Qbh PassesOwn.leaving rfl (Qas (Qak Gbo0 (hr.mono (by decide)) rfl mbo0 kbo0 bbo0 Paired.nil pass0 (Qaa (pv 0) (Qaa (pv 1) Qad)))) (Qar (i := 4) nd rfl (Or.inr rfl)) (Qac (Qaj (i := 5) nd rfl (Or.inr rfl) (Qdl [1, 4] rfl (LcOk.free ["stranger", "rows"] rfl rfl (List.forall_mem_cons.mpr ⟨rfl, (List.forall_mem_cons.mpr ⟨rfl, (fun _ h => nomatch h)⟩)⟩) (by decide+kernel) rfl (by decide+kernel) rfl (by decide+kernel) (show (["firm", "rows", "stranger"] : List Str).Nodup from by decide+kernel) (List.forall_mem_cons.mpr ⟨⟨_, rfl, rfl, rfl, by decide+kernel⟩, (List.forall_mem_cons.mpr ⟨⟨_, rfl, rfl, rfl, by decide+kernel⟩, (fun _ h => nomatch h)⟩)⟩)) (Qas (pv 0)) (fun C s2 H2 fp xe => (Qak Gbl0 (hr.mono (by decide)) rfl mbl0 kbl0 bbl0 Paired.nil pass0 (Qaa (pv 1) (Qaa (pv 2) (Qaa (pv 0) Qad)))))))
  (Qag (Qa9 (Qc0 PySem.F.plainAttrs_list PySem.F.slot_list_append PySem.F.type_list_append Qb5 (pv 3) (Qaa (Qbp (Qaa (pv 4) (Qaa (Qee (xs := ["d", "row"]) [5] rfl (LcOkT.free (xs := ["d", "row"]) ["held"] rfl rfl (List.forall_mem_cons.mpr ⟨rfl, (fun _ h => nomatch h)⟩) (by decide+kernel) rfl (by decide+kernel) (by decide+kernel) (by decide+kernel) (show (["d", "row", "held"] : List Str).Nodup from by decide+kernel) (List.forall_mem_cons.mpr ⟨⟨_, rfl, rfl, rfl, by decide+kernel⟩, (fun _ h => nomatch h)⟩)) (Qas (pv 2)) (Qco rfl (LcOkT.free (xs := ["d", "row"]) ["held"] rfl rfl (List.forall_mem_cons.mpr ⟨rfl, (fun _ h => nomatch h)⟩) (by decide+kernel) rfl (by decide+kernel) (by decide+kernel) (by decide+kernel) (show (["d", "row", "held"] : List Str).Nodup from by decide+kernel) (List.forall_mem_cons.mpr ⟨⟨_, rfl, rfl, rfl, by decide+kernel⟩, (fun _ h => nomatch h)⟩))) (fun C s2 H2 fp xe => (Qak Gbn0 (hr.mono (by decide)) rfl mbn0 kbn0 bbn0 Paired.nil pass0 (Qaa (pv 2) (Qaa (pv 0) (Qaa (pv 1) Qad)))))) Qad))) Qad))))))
  (Qag (Qaq (pv 3)))))), ?_⟩
 have hline : 10 ^ 6 ≤ sizeLine := by decide
 have lfm : (fs.map V.str).length = fs.length := List.length_map ..
 refine ⟨_, rfl, _, rfl, True.intro, fl, l, fs, R, zs, gs, es, rfl, hfl, hl, hR, TX, q2, fun hn T pp Y H1 e1 hpp hY hYv hp0 => ?_⟩
 have h6 := T.l6
 have hlen := T.rl
 have hpo := Qjj T
 have lS : (fs.map (dueR fs R)).length = fs.length := List.length_map ..
 have lY : Y.length = fs.length := by
  have := congrArg List.length hYv
  rw [List.length_map, hpo.len, lS] at this
  exact this
 refine ⟨(by show 0 ≤ sizeLine; decide), fun t ht => ?_⟩
 have e2 := Qae (o := .lst []) ht
 have t0 := e1.free ht
 have htv : upd H1 t (.lst []) t = some (.lst []) := Qab
 have nY : ∀ y ∈ Y, y.1 ≠ t ∧ y.2.2.1 ≠ t := fun y hy => ⟨Qai (hY y hy).1 ht, Qai (hY y hy).2 ht⟩
 have npt : pp ≠ t := Qai hpp ht
 have hpp2 := e2 _ _ hpp
 have hY2 := hY.same e2
 generalize upd H1 t (.lst []) = H2 at e2 htv hpp2 hY2 ⊢
 have e12 := e1.trans e2
 refine ⟨_, rfl, _, rfl, fl, l, fs, R, gs, es, rfl, e12 _ _ hfl, e12 _ _ hl, hR.same e12, hlen, fun zp ns H3 e3 hz0 hzp mm pw => ?_⟩
 have lz : ns.length ≤ 62 := by
  have h1 := Qbx ns (R.map (·.2.1)) (Qdp pw) fun x hx => by
   obtain ⟨_, z, hz, h2⟩ := (mm x).mp hx
   exact List.mem_map.mpr ⟨z, hz, h2⟩
  rw [List.length_map] at h1
  omega
 have lzm : (ns.map V.str).length = ns.length := List.length_map ..
 have nzt : zp ≠ t := fun w => by
  rw [w, htv] at hz0
  cases hz0
 refine ⟨zp, rfl, ⟨_, SqL.of hzp⟩, ?_⟩
 refine Qb2 (xs := ns.map V.str) (fun i σ H' => ∃ (o4 o5 : Option V) (xs : List V), σ = [some (.ref fl), some (.ref l), some (.ref pp), some (.ref t), o4, o5] ∧ Same H H' ∧ (∀ a o, H3 a = some o → a ≠ t → H' a = some o) ∧ H' t = some (.lst xs) ∧ xs.length = i) ⟨_, _, [], rfl, e12.trans e3, (fun a o h _ => h), e3 _ _ htv, rfl⟩ ?_ ?_ ?_
 ·rintro i σ H4 hi ⟨o4, o5, xs, rfl, _, k4, _⟩
  exact SqL.of (k4 _ _ hzp nzt)
 ·rintro i x σ H4 hx ⟨o4, o5, xs, rfl, E4, k3, ht4, lX⟩
  have hi := (List.getElem?_eq_some_iff.mp hx).1
  have k4 : ∀ a o, H2 a = some o → a ≠ t → H4 a = some o := fun a o h => k3 a o (e3 _ _ h)
  have k5 := k4
  obtain ⟨s, hs, rfl⟩ := Qbq hx
  refine ⟨_, rfl, fl, rfl, ⟨_, SqL.of (E4 _ _ hfl)⟩, ?_⟩
  refine Qb8 (xs := fs.map V.str) (fun j ys H5 => ∃ u : List Int, ys = u.map V.int ∧ u.length = j ∧ (∀ x ∈ u, N45.Bt 30 x) ∧ Same H4 H5) ⟨[], rfl, rfl, (fun z hz => nomatch hz), Qa0 _⟩ (by omega) ?_ ?_ ?_
  ·rintro j ys H5 hj ⟨u, rfl, lu, _, e5⟩
   exact ⟨SqL.of (e5 _ _ (E4 _ _ hfl)), by rw [List.length_map, lu]⟩
  ·rintro j x ys H5 hx ⟨u, rfl, lu, bu, e5⟩
   obtain ⟨f, hf, rfl⟩ := Qbq hx
   have e05 := E4.trans e5
   exact ⟨_, rfl, _, rfl, _, rfl, l, R, s, f, gs, es, rfl, e05 _ _ hl, hR.same e05, by omega, fun H6 e6 => ⟨u ++ [held R s f], by rw [List.map_append]; rfl, by rw [List.length_append, lu]; rfl, fun x hx => (List.mem_append.mp hx).elim (bu x) fun c => by rw [List.mem_singleton.mp c]; exact Qjd T s f, e5.trans e6⟩⟩
  rintro ys H5 ⟨u, rfl, lu, bu, e5⟩ hd hhd0
  have f5 := Qae (o := .lst (u.map V.int)) hhd0
  have hhd : upd H5 hd (.lst (u.map V.int)) hd = some (.lst (u.map V.int)) := Qab
  have e6 := e5.trans f5
  generalize upd H5 hd (.lst (u.map V.int)) = H6 at f5 hhd e6 ⊢
  have ht6 := e6 _ _ ht4
  have hpp6 := e6 _ _ (k4 _ _ hpp2 npt)
  have hY6 : PP H6 Y := fun y hy => ⟨e6 _ _ (k4 _ _ (hY2 y hy).1 (nY y hy).1), e6 _ _ (k4 _ _ (hY2 y hy).2 (nY y hy).2)⟩
  refine ⟨_, rfl, .inl ⟨rfl, _, SqL.of ht6⟩, _, rfl, _, rfl, pp, rfl, ⟨_, SqL.of hpp6⟩, ?_⟩
  refine Qb8 (xs := rfp Y) (fun j ys H7 => ys.length = j ∧ Same H6 H7) ⟨rfl, Qa0 _⟩ (by rw [Qen]; omega) ?_ ?_ ?_
  ·rintro j ys H7 hj ⟨lj, e7⟩
   exact ⟨SqL.of (e7 _ _ hpp6), lj⟩
  ·rintro j x ys H7 hx ⟨lj, e7⟩ σ0 h0
   obtain ⟨y, hy, rfl⟩ := Qlg hx
   obtain ⟨_, _, rfl⟩ := Qeb h0
   have hy7 := (hY6.same e7) y (List.mem_of_getElem? hy)
   obtain ⟨a1, a2, a3, a4, _⟩ := hpo.ato j (y.2.1, y.2.2.2) (by rw [← hYv, List.getElem?_map, hy]; rfl)
   exact ⟨y.1, _, rfl, SqT.of hy7.1, rfl, _, _, rfl, _, _, rfl, rfl, [_, _], rfl, rfl, _, rfl, _, rfl, _, rfl, hd, y.2.2.1, u, y.2.2.2, y.2.1, rfl, e7 _ _ hhd, hy7.2, by rw [lu, a3, lS, lfm], by omega, bu, a4, a1, a2.mono (by decide), fun p H8 e8 => ⟨by rw [List.length_append, lj]; rfl, e7.trans e8⟩⟩
  rintro ys H7 ⟨_, e7⟩ pl hpl
  refine ⟨(by show 2 ≤ sizeLine; decide), fun y hy => ?_⟩
  have e8 := e7.trans ((Qae (o := .lst ys) hpl).trans (Qae (o := .tup [.str s, .ref pl]) hy))
  refine ⟨t, _, _, rfl, rfl, e8 _ _ ht6, (by omega), ?_⟩
  exact ⟨_, _, _, rfl, Qbb (E4.trans (e6.trans e8)) t0, (fun a o h hne => by rw [Qah hne]; exact (e6.trans e8) _ _ (k3 _ _ h hne)), Qab, by rw [List.length_append, lX]; rfl⟩
 rintro σ H4 ⟨o4, o5, xs, rfl, E4, k4, ht4, lX⟩
 refine ⟨_, rfl, q hn T t xs _ E4 ht4 fun _ hr => List.eq_nil_of_length_eq_zero ?_⟩
 rw [lX, lzm]
 cases ns with
 | nil => rfl
 | cons w _ =>
   obtain ⟨_, z, hz, _⟩ := (mm w).mp List.mem_cons_self
   rw [hr] at hz
   cases hz
theorem mulB {x y : Int} {n m : Nat} (h1 : N45.Bt n x) (h2 : N45.Bt m y) (hn : n ≤ 60000000) (hm : m ≤ 60000000) : IntMulOk x y :=
 PySem.IntMulOk.of_le (PySem.intBits_le_iff.mpr h1) (PySem.intBits_le_iff.mpr h2) (by omega)
theorem Qnj {S : List (List Int)} {D : Int} {A : Nat → List Int} (I : N45.Inv S D A) (h : N45.Mm S) {i : Nat} (hi : i < S.length) : 0 < N45.gt (A i) i := by
 have r := I.right h i hi i hi
 rw [if_pos rfl] at r
 have n0 := I.nn h i hi i hi
 refine Classical.byContradiction fun c => ?_
 have z : N45.gt (A i) i = 0 := by omega
 have : N45.sm S.length (fun j => N45.gt (S.getD i []) j * N45.gt (A j) i) ≤ 0 := N45.Qj7 _ fun j hj => by
  by_cases d : i = j
  ·rw [← d, z, Int.mul_zero]
   exact Int.le_refl _
  ·exact Int.mul_nonpos_of_nonpos_of_nonneg (h.off i hi j hj d) (I.nn h j hj i hi)
 have := I.pos
 omega
theorem Qnd {t b : Int} (hb : 1 ≤ b) (ht : 0 < t) : 1 ≤ (frc t b).1 := by
 obtain ⟨b1, _, _, _, b5⟩ := Qlv (t := t) hb
 refine Classical.byContradiction fun c => ?_
 have x1 := Int.mul_nonpos_of_nonpos_of_nonneg (show (frc t b).1 ≤ 0 by omega) (show 0 ≤ b by omega)
 have x2 := Int.mul_pos ht (show 0 < (frc t b).2 by omega)
 omega
theorem dia_at {S : List (List Int)} {Y : List (Int × List Int)} (h : PapOk S Y) (M : N45.Mm S) {i : Nat} (hi : i < S.length) {y : Int × List Int} (hy : Y[i]? = some y) : 0 < N45.gt y.2 i := by
 have d := Qnj (Qf0 h) M hi
 obtain ⟨a1, _, a3, _⟩ := h.ato i _ hy
 have e : Y.getD i (1, []) = y := by
  rw [List.getD_eq_getElem?_getD, hy]
  rfl
 unfold tms at d
 rw [e, N45.Qg5 _ (by omega)] at d
 exact Classical.byContradiction fun c => by
  have x1 := Int.mul_nonpos_of_nonneg_of_nonpos (Int.ediv_nonneg (Int.le_of_lt (Qf0 h).pos) (show 0 ≤ y.1 by omega)) (show N45.gt y.2 i ≤ 0 by omega)
  omega
def ovr (a b : Int × Int) : Int × Int := frc (a.1 * b.2) (a.2 * b.1)
def spOvr : Sp := fun vs H Q _ => ∃ (a b : Addr) (x y : Int × Int), vs = [.ref a, .ref b] ∧ H a = some (.tup [.int x.1, .int x.2]) ∧ H b = some (.tup [.int y.1, .int y.2]) ∧ 1 ≤ x.2 ∧ 1 ≤ y.1 ∧ N45.Bt 1991 x.1 ∧ N45.Bt 1991 x.2 ∧ N45.Bt 1991 y.1 ∧ N45.Bt 1991 y.2 ∧ ∀ p, H p = none → Q (.ref p) (upd H p (.tup [.int (ovr x y).1, .int (ovr x y).2]))
theorem scbg0 : FnScope ["one", "other"] ["one", "other"] (defScope sbg0) := fsc
theorem okbg0 (D : Def K mg "over" sbg0 .none) (caz0 : Cal P w K mg base CX0 true 2 "fraction" ["top", "bottom"] [.int 1] spFrN) : Cal P w K mg base CX0 true 3 "over" ["one", "other"] [] spOvr := by
 obtain ⟨f, fd, F, hm⟩ := D
 obtain ⟨faz0, fdaz0, daz0, Gaz0, maz0, kaz0, baz0, vaz0, baz01⟩ := caz0
 refine ⟨f, fd, _, F.ok scbg0 (fun vs H Q E h => ?_) (fun cdv A outer s H vs Q E hr h => ?_), hm, F.kp, (F.b2), .nil, F.b2⟩
 ·obtain ⟨a, b, x, y, rfl, ha, hb, x1, y1, x3, x4, y3, y4, q⟩ := h
  rfl
 obtain ⟨a, b, x, y, rfl, ha, hb, x1, y1, x3, x4, y3, y4, q⟩ := h
 have nd := scbg0.nd
 refine ⟨_, (Qag (Qaq (Qak Gaz0 (hr.mono (by decide)) rfl maz0 kaz0 baz0 Paired.nil pass0 (Qaa (Qal Qaz (Qax Qav (pv 0) Qaf (fun _ _ => rfl)) (Qax Qav (pv 1) Qaf (fun _ _ => rfl))) (Qaa (Qal Qaz (Qax Qav (pv 0) Qaf (fun _ _ => rfl)) (Qax Qav (pv 1) Qaf (fun _ _ => rfl))) Qad))))), ?_⟩
 have hTa := SqT.of (K := K) ha
 have hTb := SqT.of (K := K) hb
 refine ⟨_, rfl, .inr (.inl ⟨a, _, 0, _, rfl, rfl, hTa, rfl, _, rfl, .inr (.inl ⟨b, _, 1, _, rfl, rfl, hTb, rfl, _, _, rfl, rfl, mulB x3 y4 (by decide) (by decide), ?_⟩)⟩)⟩
 refine ⟨_, rfl, .inr (.inl ⟨a, _, 1, _, rfl, rfl, hTa, rfl, _, rfl, .inr (.inl ⟨b, _, 0, _, rfl, rfl, hTb, rfl, _, _, rfl, rfl, mulB x4 y3 (by decide) (by decide), ?_⟩)⟩)⟩
 exact ⟨_, _, rfl, Int.mul_pos (by omega) (by omega), (N45.Bt.mul x4 y3).mono (by decide), q⟩
theorem scax0 : FnScope ["firms", "rows", "paper", "told", "place", "firm", "columns"] ["firms", "rows"] (defScope sax0) := fsc
theorem okax0 (D : Def K mg "firm_parts" sax0 .none) {C_BadAmount C_NoFirm C_Ringed C_Unheld : Addr} (cau0 : Cal P w K mg base (CX1 P w) true 6 "checked_paper" ["firms", "rows"] [] (spCkp C_NoFirm C_BadAmount C_Unheld C_Ringed)) (caz0 : Cal P w K mg base CX0 true 2 "fraction" ["top", "bottom"] [.int 1] spFrN) (cbg0 : Cal P w K mg base CX0 true 3 "over" ["one", "other"] [] spOvr) (z_enumerate : mg "enumerate" = none) : Cal P w K mg base (CX1 P w) true 7 "firm_parts" ["firms", "rows"] [] (spLst C_NoFirm C_BadAmount C_Unheld C_Ringed) := by
 obtain ⟨f, fd, F, hm⟩ := D
 obtain ⟨fau0, fdau0, dau0, Gau0, mau0, kau0, bau0, vau0, bau01⟩ := cau0
 obtain ⟨faz0, fdaz0, daz0, Gaz0, maz0, kaz0, baz0, vaz0, baz01⟩ := caz0
 obtain ⟨fbg0, fdbg0, dbg0, Gbg0, mbg0, kbg0, bbg0, vbg0, bbg01⟩ := cbg0
 refine ⟨f, fd, _, F.okX scax0 (fun vs H Q E h => ?_) (fun cdv A outer s H vs Q E hr h => ?_), hm, F.kp, (F.b2), .nil, F.b2⟩
 ·obtain ⟨fl, l, fs, R, zs, gs, es, rfl, hfl, hl, hR, TX, q2, q⟩ := h
  rfl
 obtain ⟨fl, l, fs, R, zs, gs, es, rfl, hfl, hl, hR, TX, q2, q⟩ := h
 have nd := scax0.nd
 refine ⟨_, (Qac (Qaj (i := 2) nd rfl (Or.inl rfl) (Qbu Gau0 (hr.mono (by decide)) rfl mau0 kau0 bau0 Paired.nil Qcs (Qaa (pv 0) (Qaa (pv 1) Qad))))
  (Qac (Qaj (i := 3) nd rfl (Or.inl rfl) (Qba Qad))
  (Qac (Qbh PassesOwn.leaving rfl (Qdw rfl z_enumerate (Qaa (pv 0) Qad)) (Qec rfl (Qbi (Qar (i := 4) nd rfl (Or.inr rfl)) (Qbi (Qar (i := 5) nd rfl (Or.inl rfl)) Qdc))) (Qac (Qaj (i := 6) nd rfl (Or.inr rfl) (Qee (xs := ["d", "row"]) [4] rfl (LcOkT.free (xs := ["d", "row"]) ["place"] rfl rfl (List.forall_mem_cons.mpr ⟨rfl, (fun _ h => nomatch h)⟩) (by decide+kernel) rfl (by decide+kernel) (by decide+kernel) (by decide+kernel) (show (["d", "row", "place"] : List Str).Nodup from by decide+kernel) (List.forall_mem_cons.mpr ⟨⟨_, rfl, rfl, rfl, by decide+kernel⟩, (fun _ h => nomatch h)⟩)) (Qas (pv 2)) (Qco rfl (LcOkT.free (xs := ["d", "row"]) ["place"] rfl rfl (List.forall_mem_cons.mpr ⟨rfl, (fun _ h => nomatch h)⟩) (by decide+kernel) rfl (by decide+kernel) (by decide+kernel) (by decide+kernel) (show (["d", "row", "place"] : List Str).Nodup from by decide+kernel) (List.forall_mem_cons.mpr ⟨⟨_, rfl, rfl, rfl, by decide+kernel⟩, (fun _ h => nomatch h)⟩))) (fun C s2 H2 fp xe => (Qak Gaz0 (hr.mono (by decide)) rfl maz0 kaz0 baz0 Paired.nil pass0 (Qaa (Qax Qa7 (pv 1) (pv 2) (fun _ _ => rfl)) (Qaa (pv 0) Qad))))))
  (Qag (Qa9 (Qc0 PySem.F.plainAttrs_list PySem.F.slot_list_append PySem.F.type_list_append Qb5 (pv 3) (Qaa (Qbp (Qaa (pv 5) (Qaa (Qdl [6, 4] rfl (LcOk.free ["place", "columns"] rfl rfl (List.forall_mem_cons.mpr ⟨rfl, (List.forall_mem_cons.mpr ⟨rfl, (fun _ h => nomatch h)⟩)⟩) (by decide+kernel) rfl (by decide+kernel) rfl (by decide+kernel) (show (["one", "columns", "place"] : List Str).Nodup from by decide+kernel) (List.forall_mem_cons.mpr ⟨⟨_, rfl, rfl, rfl, by decide+kernel⟩, (List.forall_mem_cons.mpr ⟨⟨_, rfl, rfl, rfl, by decide+kernel⟩, (fun _ h => nomatch h)⟩)⟩)) (Qas (pv 6)) (fun C s2 H2 fp xe => (Qak Gbg0 (hr.mono (by decide)) rfl mbg0 kbg0 bbg0 Paired.nil pass0 (Qaa (pv 0) (Qaa (Qax Qa7 (pv 1) (pv 2) (fun _ _ => rfl)) Qad))))) Qad))) Qad))))))
  (Qag (Qaq (pv 3)))))), ?_⟩
 have hline : 10 ^ 6 ≤ sizeLine := by decide
 have lfm : (fs.map V.str).length = fs.length := List.length_map ..
 refine ⟨_, rfl, _, rfl, True.intro, fl, l, fs, R, zs, gs, es, rfl, hfl, hl, hR, TX, q2, fun hn T pp Y H1 e1 hpp hY hYv hp0 => ?_⟩
 have h6 := T.l6
 have hlen := T.rl
 have hpo := Qjj T
 have lS : (fs.map (dueR fs R)).length = fs.length := List.length_map ..
 have lY : Y.length = fs.length := by
  have := congrArg List.length hYv
  rw [List.length_map, hpo.len, lS] at this
  exact this
 refine ⟨(by show 0 ≤ sizeLine; decide), fun t ht => ?_⟩
 have e2 := Qae (o := .lst []) ht
 have t0 := e1.free ht
 have htv : upd H1 t (.lst []) t = some (.lst []) := Qab
 have nY : ∀ y ∈ Y, y.1 ≠ t ∧ y.2.2.1 ≠ t := fun y hy => ⟨Qai (hY y hy).1 ht, Qai (hY y hy).2 ht⟩
 have npt : pp ≠ t := Qai hpp ht
 have hpp2 := e2 _ _ hpp
 have hY2 := hY.same e2
 generalize upd H1 t (.lst []) = H2 at e2 htv hpp2 hY2 ⊢
 have e12 := e1.trans e2
 have M := Qjk T.nd T.s1 T.rk
 have I := Qf0 hpo
 generalize pap (fs.map (dueR fs R)) = YY at hYv hpo I
 refine ⟨_, rfl, fl, rfl, ⟨_, SqL.of (e12 _ _ hfl)⟩, ?_⟩
 refine Qev (xs := fs.map V.str) (fun i σ H' => ∃ (o4 o5 o6 : Option V) (xs : List V), σ = [some (.ref fl), some (.ref l), some (.ref pp), some (.ref t), o4, o5, o6] ∧ Same H H' ∧ (∀ a o, H2 a = some o → a ≠ t → H' a = some o) ∧ H' t = some (.lst xs) ∧ xs.length = i) ⟨_, _, _, [], rfl, e12, (fun a o h _ => h), htv, rfl⟩ ?_ ?_ ?_
 ·rintro i σ H4 hi ⟨o4, o5, o6, xs, rfl, E4, _⟩
  exact SqL.of (E4 _ _ hfl)
 ·rintro i x σ H4 tt hx ⟨o4, o5, o6, xs, rfl, E4, k4, ht4, lX⟩ htt
  obtain ⟨s, hs, rfl⟩ := Qbq hx
  have hi6 : i < fs.length := (List.getElem?_eq_some_iff.mp hs).1
  have e6 := Qae (o := .tup [.int (i : Int), .str s]) htt
  refine ⟨tt, _, rfl, SqT.of Qab, rfl, _, _, rfl, _, _, rfl, rfl, ?_⟩
  generalize upd H4 tt (.tup [.int (i : Int), .str s]) = H6 at e6 ⊢
  have ht6 := e6 _ _ ht4
  have hpp6 := e6 _ _ (k4 _ _ hpp2 npt)
  have hY6 : PP H6 Y := fun y hy => ⟨e6 _ _ (k4 _ _ (hY2 y hy).1 (nY y hy).1), e6 _ _ (k4 _ _ (hY2 y hy).2 (nY y hy).2)⟩
  refine ⟨_, rfl, pp, rfl, ⟨_, SqL.of hpp6⟩, ?_⟩
  refine Qb8 (xs := rfp Y) (fun j ys H7 => ∃ F : List Fr, ys = rff F ∧ Same H6 H7 ∧ FF H7 F ∧ F.length = j ∧ ∀ k z, F[k]? = some z → 1 ≤ z.2.2 ∧ N45.Bt 1991 z.2.1 ∧ N45.Bt 1991 z.2.2 ∧ (k = i → 1 ≤ z.2.1)) ⟨[], rfl, Qa0 _, (fun z hz => nomatch hz), rfl, fun k z h => nomatch h⟩ (by rw [Qen]; omega) ?_ ?_ ?_
  ·rintro j ys H7 hj ⟨F, rfl, e7, _, lF, _⟩
   exact ⟨SqL.of (e7 _ _ hpp6), by rw [Qh9, lF]⟩
  ·rintro j x ys H7 hx ⟨F, rfl, e7, hF, lF, vF⟩ σ0 h0
   obtain ⟨y, hy, rfl⟩ := Qlg hx
   obtain ⟨_, _, rfl⟩ := Qeb h0
   have hy7 := (hY6.same e7) y (List.mem_of_getElem? hy)
   have hpy : YY[j]? = some (y.2.1, y.2.2.2) := by rw [← hYv, List.getElem?_map, hy]; rfl
   obtain ⟨a1, a2, a3, a4, _⟩ := hpo.ato j _ hpy
   refine ⟨y.1, _, rfl, SqT.of hy7.1, rfl, _, _, rfl, _, _, rfl, rfl, [_, _], rfl, rfl, ?_⟩
   refine ⟨_, rfl, _, rfl, .inl ⟨y.2.2.1, _, _, _, rfl, rfl, SqL.of hy7.2, atInt (by rw [a3, lS]; exact hi6), _, rfl, _, _, rfl, a1, a2.mono (by decide), fun p hp => ?_⟩⟩
   obtain ⟨b1, b2, b3, _, b5⟩ := Qlv (t := N45.gt y.2.2.2 i) a1
   have f8 := Qae (o := .tup [.int (frc (N45.gt y.2.2.2 i) y.2.1).1, .int (frc (N45.gt y.2.2.2 i) y.2.1).2]) hp
   refine ⟨F ++ [(p, frc (N45.gt y.2.2.2 i) y.2.1)], by rw [Qmk]; rfl, e7.trans f8, (hF.same f8).app (fun z hz => by rw [List.mem_singleton.mp hz]; exact Qab), by rw [List.length_append, lF]; rfl, fun k z hz => ?_⟩
   by_cases c : k < F.length
   ·rw [List.getElem?_append_left c] at hz
    exact vF k z hz
   ·have kj : k = j := by
     have := (List.getElem?_eq_some_iff.mp hz).1
     rw [List.length_append, lF] at this
     have : k < j + 1 := this
     omega
    rw [List.getElem?_append_right (by omega), kj, lF, Nat.sub_self] at hz
    rw [← Option.some.inj hz]
    exact ⟨b1, Nat.lt_of_le_of_lt b3 (N45.Qe0 a4 i), Nat.lt_of_le_of_lt b2 a2, fun ki => Qnd a1 (dia_at hpo M (by rw [lS]; exact hi6) (by rw [← ki, kj]; exact hpy))⟩
  rintro ys H7 ⟨F, rfl, e7, hF, lF, vF⟩ cl hcl
  have lF : F.length = fs.length := by rw [lF, Qen, lY]
  have f7 := Qae (o := .lst (rff F)) hcl
  have hcl7 : upd H7 cl (.lst (rff F)) cl = some (.lst (rff F)) := Qab
  have hF7 := hF.same f7
  have e67 := e7.trans f7
  generalize upd H7 cl (.lst (rff F)) = H8 at f7 hcl7 hF7 e67 ⊢
  obtain ⟨zi, hzi⟩ := Qcv (l := F) (k := i) (by omega)
  obtain ⟨c1, c3, c4, o1⟩ := vF i zi hzi
  refine ⟨_, rfl, .inl ⟨rfl, _, SqL.of (e67 _ _ ht6)⟩, _, rfl, _, rfl, cl, rfl, ⟨_, SqL.of hcl7⟩, ?_⟩
  refine Qb8 (xs := rff F) (fun j ys H9 => ys.length = j ∧ Same H8 H9) ⟨rfl, Qa0 _⟩ (by rw [Qh9]; omega) ?_ ?_ ?_
  ·rintro j ys H9 hj ⟨lj, e9⟩
   exact ⟨SqL.of (e9 _ _ hcl7), lj⟩
  ·rintro j x ys H9 hx ⟨lj, e9⟩
   obtain ⟨z, hz, rfl⟩ := rff_at hx
   obtain ⟨d1, d3, d4, _⟩ := vF j z hz
   exact ⟨_, rfl, _, rfl, _, rfl, .inl ⟨cl, _, _, _, rfl, rfl, SqL.of (e9 _ _ hcl7), Qce (at_rff hzi), z.1, zi.1, z.2, zi.2, rfl, e9 _ _ (hF7 z (List.mem_of_getElem? hz)), e9 _ _ (hF7 zi (List.mem_of_getElem? hzi)), d1, o1 rfl, d3, d4, c3, c4, fun p hp => ⟨by rw [List.length_append, lj]; rfl, e9.trans (Qae hp)⟩⟩⟩
  rintro ys H9 ⟨_, e9⟩ pl hpl
  have e7 := e67.trans e9
  refine ⟨(by show 2 ≤ sizeLine; decide), fun y hy => ?_⟩
  have e8 := e7.trans ((Qae (o := .lst ys) hpl).trans (Qae (o := .tup [.str s, .ref pl]) hy))
  refine ⟨t, _, _, rfl, rfl, e8 _ _ ht6, (by have := lX; omega), ?_⟩
  exact ⟨_, _, _, _, rfl, Qbb (E4.trans (e6.trans e8)) t0, (fun a o h hne => by rw [Qah hne]; exact (e6.trans e8) _ _ (k4 _ _ h hne)), Qab, by rw [List.length_append, lX]; rfl⟩
 rintro σ H4 ⟨o4, o5, o6, xs, rfl, E4, k4, ht4, lX⟩
 exact ⟨_, rfl, q hn T t xs _ E4 ht4 fun hf _ => List.eq_nil_of_length_eq_zero (by rw [lX, hf]; rfl)⟩
theorem join4 {α β γ δ : Type} {G : Prop} (F P : α → β → γ → δ → Prop) (hm : (∀ x y z u, F x y z u → P x y z u) → G) (hr : ∀ x y z u, F x y z u → P x y z u) : G := hm hr
def spAny (K : Q4) : Sp := fun vs H Q _ => ∃ (a fl sl : Addr) (ns : List Int) (fs ss : List Str), vs = [.ref a, .ref fl, .ref sl] ∧ SqL K H a (ns.map V.int) ∧ ns.length ≤ 63 ∧ (∀ w ∈ ns, PySem.Builtin.Int.intBits w ≤ 2 ^ 20) ∧ Pp H fl sl fs ss ∧
 ∀ (p : Addr) (R : List Rw) H', Same H H' → H p = none → H' p = some (.lst (rfw R)) → RW H' fs (fs ++ ss) R → R.length ≤ 50 → Q (.ref p) H'
def spSpl : Sp := fun vs H Q _ => ∃ (l fl sl : Addr) (nb : Str) (c : Int) (R : List Rw) (fs ss gs es : List Str), vs = [.ref l, .ref fl, .ref sl, .str nb, .int c] ∧ H l = some (.lst (rfw R)) ∧ RX H gs es R ∧ R.length ≤ 50 ∧ (∀ z ∈ R, z.2.2.2 ≤ 1000000) ∧ Pp H fl sl fs ss ∧
 ∀ (p : Addr) (R' : List Rw) H', Same H H' → H p = none → H' p = some (.lst (rfw R')) → RX H' gs es R' → R'.length ≤ 54 → (∀ z ∈ R', z.2.2.2 ≤ 1000000) → Q (.ref p) H'
theorem Qg4 {α : Type} {R : List α} {k : Nat} {y z : α} (h : z ∈ R.take k ++ y :: R.drop k) : z = y ∨ z ∈ R := by
 rcases List.mem_append.mp h with c | c
 ·exact .inr (List.mem_of_mem_take c)
 ·rcases List.mem_cons.mp c with c | c
  ·exact .inl c
  ·exact .inr (List.mem_of_mem_drop c)
theorem two_at {i : Nat} (h : i < 6) : ∃ v : Int, 1 ≤ v ∧ v ≤ 32 ∧ atI [V.int 1, V.int 2, V.int 4, V.int 8, V.int 16, V.int 32] (0 + (i : Int)) = some (V.int v) := by
 rw [show (0 : Int) + (i : Int) = ((i : Nat) : Int) by omega]
 match i, h with
 | 0, _ => exact ⟨1, by decide, by decide, rfl⟩
 | 1, _ => exact ⟨2, by decide, by decide, rfl⟩
 | 2, _ => exact ⟨4, by decide, by decide, rfl⟩
 | 3, _ => exact ⟨8, by decide, by decide, rfl⟩
 | 4, _ => exact ⟨16, by decide, by decide, rfl⟩
 | 5, _ => exact ⟨32, by decide, by decide, rfl⟩
theorem scae0 : FnScope ["_law_script", "_law_firms", "_law_strangers", "_law_rows", "_law_cell", "_law_pick", "_law_ring_here", "_law_k", "_law_holder"] ["_law_script", "_law_firms", "_law_strangers"] (defScope sae0) := fsc
theorem okae0 (D : Def K mg "_law_any" sae0 .none) (caj0 : Cal P w K mg base CX0 true 3 "_law_good" ["_law_script", "_law_firms", "_law_strangers"] [] (spGood K)) (cah0 : Cal P w K mg base CX0 true 1 "_law_cell_at" ["_law_script", "_law_k"] [] (spCell K)) (cak0 : Cal P w K mg base CX0 true 1 "_law_mix" ["_law_cell", "_law_by"] [] spMix) (z_range : mg "range" = none) (z_len : mg "len" = none) : Cal P w K mg base CX0 true 4 "_law_any" ["_law_script", "_law_firms", "_law_strangers"] [] (spAny K) := by
 obtain ⟨f, fd, F, hm⟩ := D
 obtain ⟨faj0, fdaj0, daj0, Gaj0, maj0, kaj0, baj0, vaj0, baj01⟩ := caj0
 obtain ⟨fah0, fdah0, dah0, Gah0, mah0, kah0, bah0, vah0, bah01⟩ := cah0
 obtain ⟨fak0, fdak0, dak0, Gak0, mak0, kak0, bak0, vak0, bak01⟩ := cak0
 refine ⟨f, fd, _, F.ok scae0 (fun vs H Q E h => ?_) (fun cdv A outer s H vs Q E hr h => ?_), hm, F.kp, (F.b3), .nil, F.b3⟩
 ·obtain ⟨a, fl, sl, ns, fs, ss, rfl, hS, hlen, hb, P, q⟩ := h
  rfl
 obtain ⟨a, fl, sl, ns, fs, ss, rfl, hS, hlen, hb, P, q⟩ := h
 have nd := scae0.nd
 refine ⟨_, (Qac (Qaj (i := 3) nd rfl (Or.inl rfl) (Qak Gaj0 (hr.mono (by decide)) rfl maj0 kaj0 baj0 Paired.nil pass0 (Qaa (pv 0) (Qaa (pv 1) (Qaa (pv 2) Qad)))))
  (Qac (Qaj (i := 4) nd rfl (Or.inl rfl) (Qak Gah0 (hr.mono (by decide)) rfl mah0 kah0 bah0 Paired.nil pass0 (Qaa (pv 0) (Qaa Qaf Qad))))
  (Qac (Qbo (Qao Qb4 (Qal Qau (pv 4) Qaf) Qaf (nomark _)) (Qag (Qaq (pv 3))) Qaw)
  (Qac (Qaj (i := 5) nd rfl (Or.inl rfl) (Qak Gak0 (hr.mono (by decide)) rfl mak0 kak0 bak0 Paired.nil pass0 (Qaa (pv 4) (Qaa Qaf Qad))))
  (Qac (Qaj (i := 6) nd rfl (Or.inr rfl) (Qba Qad))
  (Qac (Qbh PassesOwn.never rfl (Qa1 rfl z_range (Qaa (Qan Qam rfl z_len Qbn (Qaa (pv 1) Qad)) Qad)) (Qar (i := 7) nd rfl (Or.inl rfl)) (Qag (Qbo (Qao Qb4 (Qal Qau (Qal Qdo (pv 5) (Qax Qav (Qba (Qaa Qaf (Qaa Qaf (Qaa Qaf (Qaa Qaf (Qaa Qaf (Qaa Qaf Qad))))))) (pv 7) (fun _ _ => rfl))) Qaf) Qaf (nomark _)) (Qag (Qa9 (Qc0 PySem.F.plainAttrs_list PySem.F.slot_list_append PySem.F.type_list_append Qb5 (pv 6) (Qaa (Qax Qav (pv 1) (pv 7) (fun _ _ => rfl)) Qad)))) Qaw)))
  (Qac (Qcf [6] (i := 3) nd rfl (Or.inl rfl) rfl (LcOk.free ["_law_ring_here"] rfl rfl (List.forall_mem_cons.mpr ⟨rfl, (fun _ h => nomatch h)⟩) (by decide+kernel) rfl (by decide+kernel) rfl (by decide+kernel) (show (["_law_row", "_law_ring_here"] : List Str).Nodup from by decide+kernel) (List.forall_mem_cons.mpr ⟨⟨_, rfl, rfl, rfl, by decide+kernel⟩, (fun _ h => nomatch h)⟩)) (Qas (pv 3)) (fun C s2 H2 fp xe => (PW.pt (Qkd (Qao Qbv (Qax Qa7 (pv 0) Qaf (fun _ _ => rfl)) (pv 1) (by with_unfolding_all rfl)) (Qgr (Qao Qhi (Qax Qa7 (pv 0) Qaf (fun _ _ => rfl)) (pv 1) (by with_unfolding_all rfl)))))) (fun C s2 H2 fp xe => (pv 0)))
  (Qac (Qbh PassesOwn.never rfl (Qa1 rfl z_range (Qaa (Qan Qam rfl z_len Qbn (Qaa (pv 6) Qad)) Qad)) (Qar (i := 7) nd rfl (Or.inl rfl)) (Qag (Qbo (Qao Qb4 (Qal Qau (pv 4) Qaf) Qaf (nomark _)) (Qac (Qaj (i := 8) nd rfl (Or.inl rfl) (Qax Qav (pv 6) (Qal Qau (Qak Gak0 (hr.mono (by decide)) rfl mak0 kak0 bak0 Paired.nil pass0 (Qaa (pv 4) (Qaa (Qal Qa2 Qaf (Qal Qaz Qaf (pv 7))) Qad))) (Qan Qam rfl z_len Qbn (Qaa (pv 6) Qad))) (fun _ _ => rfl)))
  (Qag (Qa9 (Qc0 PySem.F.plainAttrs_list PySem.F.slot_list_insert PySem.F.type_list_insert Qc6 (pv 3) (Qaa (Qal Qau (Qak Gak0 (hr.mono (by decide)) rfl mak0 kak0 bak0 Paired.nil pass0 (Qaa (pv 4) (Qaa (Qal Qa2 Qaf (Qal Qaz Qaf (pv 7))) Qad))) (Qal Qa2 (Qan Qam rfl z_len Qbn (Qaa (pv 3) Qad)) Qaf)) (Qaa (Qbp (Qaa (pv 8) (Qaa (Qax Qav (pv 6) (pv 7) (fun _ _ => rfl)) (Qaa (Qal Qa2 Qaf (pv 7)) Qad)))) Qad)))))) Qaw)))
  (Qag (Qaq (pv 3))))))))))), ?_⟩
 have hline : 10 ^ 6 ≤ sizeLine := by decide
 have lf := P.lf
 have lf8 := P.lf8
 have lfm : (fs.map V.str).length = fs.length := List.length_map ..
 refine ⟨_, rfl, _, rfl, _, rfl, a, fl, sl, ns, fs, ss, rfl, hS, hlen, hb, P, fun p R H1 e1 hp0 hpp hR hRk hRl => ?_⟩
 refine ⟨_, rfl, a, ns, 2, rfl, e1.seq hS, ?_⟩
 refine ⟨_, rfl, _, _, rfl, rfl, (by show (0 : Int) < 3; decide), rfl, _, rfl, ?_⟩
 refine dec2 (fun h => ⟨_, rfl, q p R H1 e1 hp0 hpp hR (by omega)⟩) (fun h => ?_)
 refine ⟨_, rfl, _, 48271, rfl, by decide, fun pk k0 k1 => ?_⟩
 refine ⟨(by show 0 ≤ sizeLine; decide), fun g hg => ?_⟩
 have s1 := Qae (o := .lst []) hg
 refine ⟨_, rfl, fl, _, rfl, .inl (SqL.of (s1 _ _ (e1 _ _ P.f))), _, rfl, by omega, by omega, ?_⟩
 refine Qbk (fun i σ H' => ∃ (o7 : Option V) (rs : List Str), σ = [some (.ref a), some (.ref fl), some (.ref sl), some (.ref p), some (.int (ns.getD 2 0)), some (.int pk), some (.ref g), o7, none] ∧ Same H1 H' ∧ H' g = some (.lst (rs.map V.str)) ∧ rs.length ≤ i ∧ ∀ r ∈ rs, r ∈ fs) ⟨_, [], rfl, s1, Qab, Nat.le_refl _, fun r hr => nomatch hr⟩ ?_ ?_
 ·rintro i σ H2 hi ⟨o7, rs, rfl, e2, hgg, hrl, hrs⟩
  have hi6 : i < fs.length := by omega
  obtain ⟨v, v0, v1, hv⟩ := two_at (i := i) (by omega)
  refine ⟨_, rfl, (by show 6 ≤ sizeLine; decide), fun t ht => ⟨_, rfl, .inl ⟨t, _, _, _, rfl, rfl, SqL.of Qab, hv, _, _, rfl, rfl, log_of (by omega) (by omega) (by omega), _, _, rfl, rfl, (by show (0 : Int) < 2; decide), rfl, _, rfl, ?_⟩⟩⟩
  have f1 := Qae (o := .lst [.int 1, .int 2, .int 4, .int 8, .int 16, .int 32]) ht
  refine dec2 (fun h => ?_) (fun h => ?_)
  ·obtain ⟨f, fm, hf⟩ := Qca (ws := fs) (i := 0 + (i : Int)) (by omega) (by omega)
   refine ⟨_, rfl, .inl ⟨rfl, _, SqL.of (f1 _ _ hgg)⟩, _, rfl, _, rfl, .inl ⟨fl, _, _, _, rfl, rfl, SqL.of (f1 _ _ (e2 _ _ (e1 _ _ P.f))), hf, g, _, _, rfl, rfl, f1 _ _ hgg, (by rw [List.length_map]; omega), ?_⟩⟩
   refine ⟨_, rs ++ [f], rfl, Qbb (e2.trans f1) hg, (by rw [Qab, List.map_append]; rfl), (by rw [List.length_append]; show rs.length + 1 ≤ i + 1; omega), fun r hr => ?_⟩
   rcases List.mem_append.mp hr with c | c
   ·exact hrs r c
   ·rw [List.mem_singleton.mp c]
    exact fm
  ·exact ⟨_, rs, rfl, e2.trans f1, f1 _ _ hgg, by omega, hrs⟩
 rintro σ H2 ⟨o7, rs, rfl, e2, hgg, hrl, hrs⟩
 have hpp2 := e2 _ _ hpp
 have hR2 := hR.same e2
 refine ⟨_, rfl, p, rfl, ⟨_, SqL.of hpp2⟩, ?_⟩
 refine Qbe (xs := rfw R) (fun j ys H5 => ∃ T : List Rw, ys = rfw T ∧ (∀ z ∈ T, z ∈ R) ∧ T.length ≤ j ∧ H5 = H2) ⟨[], rfl, (fun z hz => nomatch hz), Nat.le_refl _, rfl⟩ (by rw [Qay]; omega) ?_ ?_ ?_
 ·rintro j ys H5 hj ⟨T, rfl, _, hTl, rfl⟩
  exact ⟨SqL.of hpp2, by rw [Qay]; exact hTl⟩
 ·rintro j x ys H5 hx ⟨T, rfl, hT, hTl, rfl⟩
  obtain ⟨y, hy, rfl⟩ := Qci hx
  have hTy := SqT.of (K := K) (hR2 y (List.mem_of_getElem? hy)).1
  refine ⟨_, rfl, .inr (.inl ⟨y.1, _, 1, _, rfl, rfl, hTy, rfl, _, rfl, g, _, rfl, .inl (SqL.of hgg), rfl, Qbf _, _, rfl, ?_⟩)⟩
  refine Qgd _ (fun _ => iteT ⟨_, rfl, T ++ [y], by rw [Qem]; rfl, (fun z hz => (List.mem_append.mp hz).elim (fun c => hT z c) (fun c => by rw [List.mem_singleton.mp c]; exact List.mem_of_getElem? hy)), by rw [List.length_append]; show T.length + 1 ≤ j + 1; omega, rfl⟩) (fun _ => ?_)
  refine ⟨_, rfl, .inr (.inl ⟨y.1, _, 0, _, rfl, rfl, hTy, rfl, _, rfl, g, _, rfl, .inl (SqL.of hgg), rfl, Qbf _, _, rfl, ?_⟩)⟩
  exact Qgd _ (fun _ => ⟨_, rfl, T ++ [y], by rw [Qem]; rfl, (fun z hz => (List.mem_append.mp hz).elim (fun c => hT z c) (fun c => by rw [List.mem_singleton.mp c]; exact List.mem_of_getElem? hy)), by rw [List.length_append]; show T.length + 1 ≤ j + 1; omega, rfl⟩) (fun _ => ⟨T, rfl, hT, by omega, rfl⟩)
 rintro ys H5 ⟨T, rfl, hT, hTl, rfl⟩ r2 hr2
 rw [Qay] at hTl
 have f2 := Qae (o := .lst (rfw T)) hr2
 have e5 := e2.trans f2
 have hr0 : H1 r2 = none := e2.free hr2
 have ngr : g ≠ r2 := fun w => by
  rw [w, hr2] at hgg
  cases hgg
 have hRT : RW (upd H5 r2 (.lst (rfw T))) fs (fs ++ ss) T := fun z hz => ⟨f2 _ _ (hR2 z (hT z hz)).1, (hR2 z (hT z hz)).2⟩
 have lrm : (rs.map V.str).length = rs.length := List.length_map ..
 refine ⟨_, rfl, g, _, rfl, .inl (SqL.of (f2 _ _ hgg)), _, rfl, by omega, by omega, ?_⟩
 refine Qbk (fun i σ H' => ∃ (o7 o8 : Option V) (R' : List Rw), σ = [some (.ref a), some (.ref fl), some (.ref sl), some (.ref r2), some (.int (ns.getD 2 0)), some (.int pk), some (.ref g), o7, o8] ∧ Same H1 H' ∧ H' g = some (.lst (rs.map V.str)) ∧ H' r2 = some (.lst (rfw R')) ∧ RW H' fs (fs ++ ss) R' ∧ R'.length ≤ 40 + i) ⟨_, _, T, rfl, e5, f2 _ _ hgg, Qab, hRT, by omega⟩ ?_ ?_
 ·clear hRT hTl
  rintro i σ H6 hi ⟨o7, o8, R', rfl, e6, hg6, hr6, hR6, hRl6⟩
  have hir : i < rs.length := by omega
  refine ⟨_, rfl, _, _, rfl, rfl, (by show (0 : Int) < 3; decide), rfl, _, rfl, ?_⟩
  refine dec2 (fun h => ?_) (fun h => ⟨_, _, R', rfl, e6, hg6, hr6, hR6, by omega⟩)
  refine ⟨_, rfl, _, rfl, _, rfl, _, _, rfl, rfl, Qb9 (by omega) (by omega) (by omega) (by omega), _, _, rfl, rfl, _, _, rfl, by omega, fun m3 a0 a1 => ⟨_, rfl, g, _, rfl, .inl (SqL.of hg6), _, _, rfl, rfl, (by show (0 : Int) < ((rs.map V.str).length : Int); omega), ?_⟩⟩
  obtain ⟨hn, hm, hh⟩ := Qca (ws := rs) (i := m3 % ((rs.map V.str).length : Int)) (Int.emod_nonneg _ (by omega)) (by rw [← lrm]; exact Int.emod_lt_of_pos _ (by omega))
  refine .inl ⟨g, _, _, _, rfl, rfl, SqL.of hg6, hh, ?_⟩
  obtain ⟨f, fm, hf⟩ := Qca (ws := rs) (i := 0 + (i : Int)) (by omega) (by omega)
  refine ⟨_, rfl, .inl ⟨rfl, _, SqL.of hr6⟩, _, rfl, _, rfl, _, _, rfl, rfl, Qb9 (by omega) (by omega) (by omega) (by omega), _, _, rfl, rfl, _, _, rfl, by omega, fun m4 b0 b1 => ⟨_, rfl, r2, _, rfl, .inl (SqL.of hr6), _, _, rfl, rfl, _, _, rfl, rfl, (by show (0 : Int) < ((rfw R').length : Int) + 1; omega), _, rfl, _, rfl, _, rfl, .inl ⟨g, _, _, _, rfl, rfl, SqL.of hg6, hf, _, rfl, _, _, rfl, rfl, (by show 3 ≤ sizeLine; decide), fun y hy => ?_⟩⟩⟩
  have w0 := Int.emod_nonneg m4 (show ((rfw R').length : Int) + 1 ≠ 0 by omega)
  have w1 := Int.emod_lt_of_pos m4 (show 0 < ((rfw R').length : Int) + 1 by omega)
  have hk : ((m4 % (((rfw R').length : Int) + 1)).toNat : Int) = m4 % (((rfw R').length : Int) + 1) := Int.toNat_of_nonneg w0
  have fy := Qae (o := tup3 (y, hn, f, 1 + (0 + (i : Int)))) hy
  refine ⟨r2, _, (m4 % (((rfw R').length : Int) + 1)).toNat, _, rfl, congrArg (fun z => [V.int z, V.ref y]) hk.symm, fy _ _ hr6, (by omega), (by rw [Qay]; omega), ?_⟩
  rw [Qel R' _ (y, hn, f, 1 + (0 + (i : Int)))]
  refine ⟨_, _, R'.take (m4 % (((rfw R').length : Int) + 1)).toNat ++ (y, hn, f, 1 + (0 + (i : Int))) :: R'.drop (m4 % (((rfw R').length : Int) + 1)).toNat, rfl, Qbb (e6.trans fy) hr0, (by rw [Qah ngr]; exact fy _ _ hg6), Qab, fun z hz => ?_, (by rw [List.length_append, List.length_cons, List.length_take, List.length_drop]; omega)⟩
  rcases List.mem_append.mp hz with c | c
  ·exact ⟨Qa8 (fy _ _ (hR6 z (List.mem_of_mem_take c)).1) (fy _ _ hr6), (hR6 z (List.mem_of_mem_take c)).2⟩
  ·rcases List.mem_cons.mp c with c | c
   ·rw [c]
    exact ⟨Qa8 Qab (fy _ _ hr6), List.mem_append_left _ (hrs _ hm), hrs _ fm, (by show (1 : Int) ≤ 1 + (0 + (i : Int)); omega), (by show 1 + (0 + (i : Int)) ≤ 1000000; omega)⟩
   ·exact ⟨Qa8 (fy _ _ (hR6 z (List.mem_of_mem_drop c)).1) (fy _ _ hr6), (hR6 z (List.mem_of_mem_drop c)).2⟩
 rintro σ H6 ⟨o7', o8, R', rfl, e6, hg6, hr6, hR6, hRl6⟩
 exact ⟨_, rfl, q r2 R' _ (e1.trans e6) (e1.free hr0) hr6 hR6 (by omega)⟩
theorem scar0 : FnScope ["_law_rows", "_law_firms", "_law_strangers", "_law_nobody", "_law_cell", "_law_made", "_law_everyone", "_law_k", "_law_gone", "_law_name", "_law_row", "_law_holder", "_law_firm", "_law_shares_here"] ["_law_rows", "_law_firms", "_law_strangers", "_law_nobody", "_law_cell"] (defScope sar0) := fsc
theorem okar0 (D : Def K mg "_law_spoilt" sar0 .none) (cak0 : Cal P w K mg base CX0 true 1 "_law_mix" ["_law_cell", "_law_by"] [] spMix) (z_list : mg "list" = none) (z_len : mg "len" = none) (z_range : mg "range" = none) : Cal P w K mg base CX0 true 3 "_law_spoilt" ["_law_rows", "_law_firms", "_law_strangers", "_law_nobody", "_law_cell"] [] spSpl := by
 obtain ⟨f, fd, F, hm⟩ := D
 obtain ⟨fak0, fdak0, dak0, Gak0, mak0, kak0, bak0, vak0, bak01⟩ := cak0
 refine ⟨f, fd, _, F.ok scar0 (fun vs H Q E h => ?_) (fun cdv A outer s H vs Q E hr h => ?_), hm, F.kp, (F.b5), .nil, F.b5⟩
 ·obtain ⟨l, fl, sl, nb, c, R, fs, ss, gs, es, rfl, hl, hR, hlen, hs, P, q⟩ := h
  rfl
 obtain ⟨l, fl, sl, nb, c, R, fs, ss, gs, es, rfl, hl, hR, hlen, hs, P, q⟩ := h
 have nd := scar0.nd
 refine ⟨_, (Qac (Qaj (i := 5) nd rfl (Or.inl rfl) (Qbt Qbm rfl z_list Qcm (Qaa (pv 0) Qad)))
  (Qac (Qaj (i := 6) nd rfl (Or.inl rfl) (Qal Qdh (pv 1) (pv 2)))
  (Qac (Qbo (Qao Qb4 (Qal Qau (pv 4) Qaf) Qaf (nomark _)) (Qac (Qaj (i := 8) nd rfl (Or.inr rfl) (Qax Qav (pv 1) (Qal Qau (Qak Gak0 (hr.mono (by decide)) rfl mak0 kak0 bak0 Paired.nil pass0 (Qaa (pv 4) (Qaa Qaf Qad))) (Qan Qam rfl z_len Qbn (Qaa (pv 1) Qad))) (fun _ _ => rfl)))
  (Qag (Qcf [8] (i := 5) nd rfl (Or.inl rfl) rfl (LcOk.free ["_law_gone"] rfl rfl (List.forall_mem_cons.mpr ⟨rfl, (fun _ h => nomatch h)⟩) (by decide+kernel) rfl (by decide+kernel) rfl (by decide+kernel) (show (["_law_row", "_law_gone"] : List Str).Nodup from by decide+kernel) (List.forall_mem_cons.mpr ⟨⟨_, rfl, rfl, rfl, by decide+kernel⟩, (fun _ h => nomatch h)⟩)) (Qas (pv 5)) (fun C s2 H2 fp xe => (Qao Qik (Qax Qa7 (pv 0) Qaf (fun _ _ => rfl)) (pv 1) (nomark _))) (fun C s2 H2 fp xe => (pv 0))))) Qaw)
  (Qac (Qbh PassesOwn.never rfl (Qa1 rfl z_range (Qaa (Qal Qau (Qal Qbw (pv 4) Qaf) Qaf) Qad)) (Qar (i := 7) nd rfl (Or.inl rfl)) (Qac (Qaj (i := 9) nd rfl (Or.inl rfl) (Qax Qav (Qal Qdh (Qba (Qaa (pv 3) Qad)) (pv 2)) (Qal Qau (Qak Gak0 (hr.mono (by decide)) rfl mak0 kak0 bak0 Paired.nil pass0 (Qaa (pv 4) (Qaa (Qal Qa2 Qaf (Qal Qaz Qaf (pv 7))) Qad))) (Qal Qa2 Qaf (Qan Qam rfl z_len Qbn (Qaa (pv 2) Qad)))) (fun _ _ => rfl)))
  (Qac (Qaj (i := 10) nd rfl (Or.inl rfl) (Qbp (Qaa (Qax Qav (pv 6) (Qal Qau (Qak Gak0 (hr.mono (by decide)) rfl mak0 kak0 bak0 Paired.nil pass0 (Qaa (pv 4) (Qaa (Qal Qa2 Qaf (Qal Qaz Qaf (pv 7))) Qad))) (Qan Qam rfl z_len Qbn (Qaa (pv 6) Qad))) (fun _ _ => rfl)) (Qaa (pv 9) (Qaa (pv 7) Qad)))))
  (Qag (Qa9 (Qc0 PySem.F.plainAttrs_list PySem.F.slot_list_insert PySem.F.type_list_insert Qc6 (pv 5) (Qaa (Qal Qau (Qak Gak0 (hr.mono (by decide)) rfl mak0 kak0 bak0 Paired.nil pass0 (Qaa (pv 4) (Qaa (Qal Qa2 Qaf (Qal Qaz Qaf (pv 7))) Qad))) (Qal Qa2 (Qan Qam rfl z_len Qbn (Qaa (pv 5) Qad)) Qaf)) (Qaa (pv 10) Qad))))))))
  (Qac (Qbh PassesOwn.never rfl (Qa1 rfl z_range (Qaa (Qal Qau (Qal Qbw (pv 4) Qaf) Qaf) Qad)) (Qar (i := 7) nd rfl (Or.inl rfl)) (Qac (Qaj (i := 11) nd rfl (Or.inl rfl) (Qax Qav (pv 6) (Qal Qau (Qak Gak0 (hr.mono (by decide)) rfl mak0 kak0 bak0 Paired.nil pass0 (Qaa (pv 4) (Qaa (Qal Qa2 Qaf (Qal Qaz Qaf (pv 7))) Qad))) (Qan Qam rfl z_len Qbn (Qaa (pv 6) Qad))) (fun _ _ => rfl)))
  (Qac (Qaj (i := 12) nd rfl (Or.inl rfl) (Qax Qav (pv 1) (Qal Qau (Qak Gak0 (hr.mono (by decide)) rfl mak0 kak0 bak0 Paired.nil pass0 (Qaa (pv 4) (Qaa (Qal Qa2 Qaf (Qal Qaz Qaf (pv 7))) Qad))) (Qan Qam rfl z_len Qbn (Qaa (pv 1) Qad))) (fun _ _ => rfl)))
  (Qac (Qaj (i := 13) nd rfl (Or.inl rfl) (Qkg Qgh (Qal Qau (Qak Gak0 (hr.mono (by decide)) rfl mak0 kak0 bak0 Paired.nil pass0 (Qaa (pv 4) (Qaa (Qal Qa2 Qaf (pv 7)) Qad))) Qaf)))
  (Qag (Qa9 (Qc0 PySem.F.plainAttrs_list PySem.F.slot_list_insert PySem.F.type_list_insert Qc6 (pv 5) (Qaa (Qal Qau (Qak Gak0 (hr.mono (by decide)) rfl mak0 kak0 bak0 Paired.nil pass0 (Qaa (pv 4) (Qaa (Qal Qa2 Qaf (Qal Qaz Qaf (pv 7))) Qad))) (Qal Qa2 (Qan Qam rfl z_len Qbn (Qaa (pv 5) Qad)) Qaf)) (Qaa (Qbp (Qaa (pv 11) (Qaa (pv 12) (Qaa (pv 13) Qad)))) Qad)))))))))
  (Qag (Qaq (pv 5)))))))), ?_⟩
 have hline : 10 ^ 6 ≤ sizeLine := by decide
 have lf := P.lf
 have lf8 := P.lf8
 have ls := P.ls
 have ls8 := P.ls8
 have lfm : (fs.map V.str).length = fs.length := List.length_map ..
 have lsm : (ss.map V.str).length = ss.length := List.length_map ..
 refine ⟨_, rfl, l, _, rfl, .inl (SqL.of hl), fun m0 hm0 => ?_⟩
 have e1 := Qae (o := .lst (rfw R)) hm0
 have hm1 : upd H m0 (.lst (rfw R)) m0 = some (.lst (rfw R)) := Qab
 generalize upd H m0 (.lst (rfw R)) = H1 at e1 hm1 ⊢
 refine ⟨_, rfl, _, rfl, fl, sl, _, _, rfl, rfl, e1 _ _ P.f, e1 _ _ P.s, by omega, fun ev hev => ?_⟩
 have lem : (fs.map V.str ++ ss.map V.str) = (fs ++ ss).map V.str := by rw [List.map_append]
 rw [lem]
 have lel : ((fs ++ ss).map V.str).length = fs.length + ss.length := by rw [List.length_map, List.length_append]
 have e2 := Qae (o := .lst ((fs ++ ss).map V.str)) hev
 have hev2 : upd H1 ev (.lst ((fs ++ ss).map V.str)) ev = some (.lst ((fs ++ ss).map V.str)) := Qab
 generalize upd H1 ev (.lst ((fs ++ ss).map V.str)) = H2 at e2 hev2 ⊢
 have e12 := e1.trans e2
 have hm2 := e2 _ _ hm1
 have hR2 := hR.same e12
 apply join4 (fun (m : Addr) (T : List Rw) (HX : Hp) (o : Option V) => Same H HX ∧ HX m = some (.lst (rfw T)) ∧ RX HX gs es T ∧ T.length ≤ 50 ∧ (∀ z ∈ T, z.2.2.2 ≤ 1000000) ∧ H m = none ∧ HX ev = some (.lst ((fs ++ ss).map V.str)) ∧ ev ≠ m)
 ·intro kk
  refine ⟨_, rfl, _, _, rfl, rfl, (by show (0 : Int) < 4; decide), rfl, _, rfl, ?_⟩
  refine dec2 (fun h => ?_) (fun h => ?_)
  ·refine ⟨_, rfl, _, rfl, _, 40014, rfl, by decide, fun n1 a0 a1 => ⟨_, rfl, fl, _, rfl, .inl (SqL.of (e12 _ _ P.f)), _, _, rfl, rfl, (by show (0 : Int) < ((fs.map V.str).length : Int); omega), ?_⟩⟩
   obtain ⟨f, fm, hf⟩ := Qca (ws := fs) (i := n1 % ((fs.map V.str).length : Int)) (Int.emod_nonneg _ (by omega)) (by rw [← lfm]; exact Int.emod_lt_of_pos _ (by omega))
   refine .inl ⟨fl, _, _, _, rfl, rfl, SqL.of (e12 _ _ P.f), hf, ?_⟩
   refine ⟨_, rfl, m0, rfl, ⟨_, SqL.of hm2⟩, ?_⟩
   refine Qbe (xs := rfw R) (fun j ys H5 => ∃ T : List Rw, ys = rfw T ∧ (∀ z ∈ T, z ∈ R) ∧ T.length ≤ j ∧ H5 = H2) ⟨[], rfl, (fun z hz => nomatch hz), Nat.le_refl _, rfl⟩ (by rw [Qay]; omega) ?_ ?_ ?_
   ·rintro j ys H5 hj ⟨T, rfl, _, hTl, rfl⟩
    exact ⟨SqL.of hm2, by rw [Qay]; exact hTl⟩
   ·rintro j x ys H5 hx ⟨T, rfl, hT, hTl, rfl⟩
    obtain ⟨y, hy, rfl⟩ := Qci hx
    have hTy := SqT.of (K := K) (hR2 y (List.mem_of_getElem? hy)).1
    refine ⟨_, rfl, .inr (.inl ⟨y.1, _, 1, _, rfl, rfl, hTy, rfl, _, rfl, rfl, _, rfl, ?_⟩)⟩
    exact ndec2 (fun _ => ⟨_, rfl, T ++ [y], by rw [Qem]; rfl, (fun z hz => (List.mem_append.mp hz).elim (fun c => hT z c) (fun c => by rw [List.mem_singleton.mp c]; exact List.mem_of_getElem? hy)), by rw [List.length_append]; show T.length + 1 ≤ j + 1; omega, rfl⟩) (fun _ => ⟨T, rfl, hT, by omega, rfl⟩)
   rintro ys H5 ⟨T, rfl, hT, hTl, rfl⟩ m2 hm20
   rw [Qay] at hTl
   have f5 := Qae (o := .lst (rfw T)) hm20
   have hm5 : upd H5 m2 (.lst (rfw T)) m2 = some (.lst (rfw T)) := Qab
   have m00 := e12.free hm20
   have e05 := e12.trans f5
   have hT5 : RX (upd H5 m2 (.lst (rfw T))) gs es T := fun z hz => ⟨f5 _ _ (hR2 z (hT z hz)).1, trivial⟩
   have hv5 := f5 _ _ hev2
   have nev0 : ev ≠ m2 := fun w => by
    rw [← w, hev2] at hm20
    cases hm20
   generalize upd H5 m2 (.lst (rfw T)) = H6 at f5 hm5 e05 hT5 hv5 ⊢
   obtain ⟨o, eo⟩ : ∃ o, o = some (V.str f) := ⟨_, rfl⟩
   rw [← eo]
   exact kk m2 T H6 o ⟨e05, hm5, hT5, by omega, (fun z hz => hs z (hT z hz)), m00, hv5, nev0⟩
  ·exact kk m0 R H2 none ⟨e12, hm2, hR2, hlen, hs, hm0, hev2, fun w => by
    rw [w, hm1] at hev
    cases hev⟩
 rintro m T HX o ⟨eX, hmX, hTX, hlX, hsX, m0X, hvX, nevX⟩
 have nev : ev ≠ m := nevX
 refine ⟨_, rfl, _, _, rfl, rfl, ⟨by decide, by decide⟩, _, _, rfl, rfl, (by show (0 : Int) < 3; decide), _, rfl, (by have := Int.emod_lt_of_pos (c / 4) (show (0 : Int) < 3 by decide); omega), (by have := Int.emod_lt_of_pos (c / 4) (show (0 : Int) < 3 by decide); omega), ?_⟩
 refine Qbk (fun i σ H' => ∃ (o7 o8 o9 o10 o11 o12 o13 : Option V) (R' : List Rw), σ = [some (.ref l), some (.ref fl), some (.ref sl), some (.str nb), some (.int c), some (.ref m), some (.ref ev), o7, o8, o9, o10, o11, o12, o13] ∧ Same H H' ∧ H' m = some (.lst (rfw R')) ∧ RX H' gs es R' ∧ R'.length ≤ 50 + i ∧ (∀ z ∈ R', z.2.2.2 ≤ 1000000) ∧ H' ev = some (.lst ((fs ++ ss).map V.str))) ⟨_, _, _, _, _, _, _, T, rfl, eX, hmX, hTX, by omega, hsX, hvX⟩ ?_ ?_
 ·rintro i σ H6 hi ⟨o7, o8, o9, o10, o11, o12, o13, R', rfl, e6, hm6, hR6, hl6, hs6, hv6⟩
  have hi3 : i < 2 := by
   have := Int.emod_lt_of_pos (c / 4) (show (0 : Int) < 3 by decide)
   have := Int.emod_nonneg (c / 4) (show (3 : Int) ≠ 0 by decide)
   omega
  refine ⟨_, rfl, (by show 1 ≤ sizeLine; decide), fun b1 hb1 => ?_⟩
  have g1 := Qae (o := .lst [.str nb]) hb1
  refine ⟨_, rfl, b1, sl, _, _, rfl, rfl, Qab, g1 _ _ (e6 _ _ P.s), (by show 1 + (ss.map V.str).length ≤ sizeLine; omega), fun c1 hc1 => ?_⟩
  rw [show [V.str nb] ++ ss.map V.str = (nb :: ss).map V.str from rfl]
  have g2 := Qae (o := .lst ((nb :: ss).map V.str)) hc1
  have hc2 : upd (upd H6 b1 (.lst [.str nb])) c1 (.lst ((nb :: ss).map V.str)) c1 = some (.lst ((nb :: ss).map V.str)) := Qab
  have g12 := g1.trans g2
  generalize upd (upd H6 b1 (.lst [.str nb])) c1 (.lst ((nb :: ss).map V.str)) = H7 at g2 hc2 g12 ⊢
  have lnb : ((nb :: ss).map V.str).length = ss.length + 1 := by rw [List.length_map]; rfl
  refine ⟨_, rfl, _, rfl, _, _, rfl, rfl, Qb9 (by omega) (by omega) (by omega) (by omega), _, _, rfl, rfl, _, _, rfl, by omega, fun n1 n10 n11 => ⟨_, rfl, sl, _, rfl, .inl (SqL.of (g12 _ _ (e6 _ _ P.s))), _, _, rfl, rfl, _, _, rfl, rfl, (by show (0 : Int) < 1 + ((ss.map V.str).length : Int); omega), ?_⟩⟩
  obtain ⟨nm, _, hnm⟩ := Qca (ws := nb :: ss) (i := n1 % (1 + ((ss.map V.str).length : Int))) (Int.emod_nonneg _ (by omega)) (by have := Int.emod_lt_of_pos n1 (show (0 : Int) < 1 + ((ss.map V.str).length : Int) by omega); rw [List.length_cons]; omega)
  refine .inl ⟨c1, _, _, _, rfl, rfl, SqL.of hc2, hnm, ?_⟩
  refine ⟨_, rfl, _, rfl, _, rfl, _, _, rfl, rfl, Qb9 (by omega) (by omega) (by omega) (by omega), _, _, rfl, rfl, _, _, rfl, by omega, fun n2 n20 n21 => ⟨_, rfl, ev, _, rfl, .inl (SqL.of (g12 _ _ hv6)), _, _, rfl, rfl, (by show (0 : Int) < (((fs ++ ss).map V.str).length : Int); omega), ?_⟩⟩
  obtain ⟨h, hh, hw⟩ := Qca (ws := fs ++ ss) (i := n2 % (((fs ++ ss).map V.str).length : Int)) (Int.emod_nonneg _ (by omega)) (by have := Int.emod_lt_of_pos n2 (show (0 : Int) < (((fs ++ ss).map V.str).length : Int) by omega); rw [List.length_map] at this ⊢; exact this)
  refine .inl ⟨ev, _, _, _, rfl, rfl, SqL.of (g12 _ _ hv6), hw, _, rfl, _, rfl, (by show 3 ≤ sizeLine; decide), fun y hy => ?_⟩
  have fy := Qae (o := tup3 (y, h, nm, (0 + (i : Int)))) hy
  have hm7 := fy _ _ (g12 _ _ hm6)
  have nym : y ≠ m := fun w => by
   rw [w, (g12 _ _ hm6)] at hy
   cases hy
  have gy := g12.trans fy
  refine ⟨_, rfl, .inl ⟨rfl, _, SqL.of hm7⟩, _, rfl, _, rfl, _, _, rfl, rfl, Qb9 (by omega) (by omega) (by omega) (by omega), _, _, rfl, rfl, _, _, rfl, by omega, fun n9 n90 n91 => ⟨_, rfl, m, _, rfl, .inl (SqL.of hm7), _, _, rfl, rfl, _, _, rfl, rfl, (by show (0 : Int) < ((rfw R').length : Int) + 1; omega), _, rfl, ?_⟩⟩
  have w0 := Int.emod_nonneg n9 (show ((rfw R').length : Int) + 1 ≠ 0 by omega)
  have w1 := Int.emod_lt_of_pos n9 (show 0 < ((rfw R').length : Int) + 1 by omega)
  have hk : ((n9 % (((rfw R').length : Int) + 1)).toNat : Int) = n9 % (((rfw R').length : Int) + 1) := Int.toNat_of_nonneg w0
  refine ⟨m, _, (n9 % (((rfw R').length : Int) + 1)).toNat, _, rfl, congrArg (fun z => [V.int z, V.ref y]) hk.symm, hm7, (by omega), (by rw [Qay]; omega), ?_⟩
  rw [Qel R' _ (y, h, nm, (0 + (i : Int)))]
  refine ⟨_, _, _, _, _, _, _, R'.take (n9 % (((rfw R').length : Int) + 1)).toNat ++ (y, h, nm, (0 + (i : Int))) :: R'.drop (n9 % (((rfw R').length : Int) + 1)).toNat, rfl, Qbb (e6.trans gy) m0X, Qab, fun z hz => ⟨?_, trivial⟩, (by rw [List.length_append, List.length_cons, List.length_take, List.length_drop]; omega), fun z hz => ?_, ?_⟩
  ·rcases Qg4 hz with c | c
   ·rw [c]
    exact Qa8 Qab hm7
   ·exact Qa8 (gy _ _ (hR6 z c).1) hm7
  ·rcases Qg4 hz with c | c
   ·rw [c]
    show (0 + (i : Int)) ≤ 1000000
    omega
   ·exact hs6 z c
  ·rw [Qah nev]
   exact gy _ _ hv6
 rintro σ H5 ⟨o7, o8, o9, o10, o11, o12, o13, R1, rfl, e5, hm5, hR5, hl5, hs5, hv5⟩
 have hl5 : R1.length ≤ 52 := by
  have := Int.emod_lt_of_pos (c / 4) (show (0 : Int) < 3 by decide)
  omega
 refine ⟨_, rfl, _, _, rfl, rfl, ⟨by decide, by decide⟩, _, _, rfl, rfl, (by show (0 : Int) < 3; decide), _, rfl, (by have := Int.emod_lt_of_pos (c / 12) (show (0 : Int) < 3 by decide); omega), (by have := Int.emod_lt_of_pos (c / 12) (show (0 : Int) < 3 by decide); omega), ?_⟩
 refine Qbk (fun i σ H' => ∃ (o7 o8 o9 o10 o11 o12 o13 : Option V) (R' : List Rw), σ = [some (.ref l), some (.ref fl), some (.ref sl), some (.str nb), some (.int c), some (.ref m), some (.ref ev), o7, o8, o9, o10, o11, o12, o13] ∧ Same H H' ∧ H' m = some (.lst (rfw R')) ∧ RX H' gs es R' ∧ R'.length ≤ 52 + i ∧ (∀ z ∈ R', z.2.2.2 ≤ 1000000) ∧ H' ev = some (.lst ((fs ++ ss).map V.str))) ⟨_, _, _, _, _, _, _, R1, rfl, e5, hm5, hR5, by omega, hs5, hv5⟩ ?_ ?_
 ·rintro i σ H6 hi ⟨o7, o8, o9, o10, o11, o12, o13, R', rfl, e6, hm6, hR6, hl6, hs6, hv6⟩
  have hi3 : i < 2 := by
   have := Int.emod_lt_of_pos (c / 12) (show (0 : Int) < 3 by decide)
   have := Int.emod_nonneg (c / 12) (show (3 : Int) ≠ 0 by decide)
   omega
  refine ⟨_, rfl, _, rfl, _, rfl, _, _, rfl, rfl, Qb9 (by omega) (by omega) (by omega) (by omega), _, _, rfl, rfl, _, _, rfl, by omega, fun n2 n20 n21 => ⟨_, rfl, ev, _, rfl, .inl (SqL.of hv6), _, _, rfl, rfl, (by show (0 : Int) < (((fs ++ ss).map V.str).length : Int); omega), ?_⟩⟩
  obtain ⟨h, hh, hw⟩ := Qca (ws := fs ++ ss) (i := n2 % (((fs ++ ss).map V.str).length : Int)) (Int.emod_nonneg _ (by omega)) (by have := Int.emod_lt_of_pos n2 (show (0 : Int) < (((fs ++ ss).map V.str).length : Int) by omega); rw [List.length_map] at this ⊢; exact this)
  refine .inl ⟨ev, _, _, _, rfl, rfl, SqL.of hv6, hw, ?_⟩
  refine ⟨_, rfl, _, rfl, _, rfl, _, _, rfl, rfl, Qb9 (by omega) (by omega) (by omega) (by omega), _, _, rfl, rfl, _, _, rfl, by omega, fun n3 n30 n31 => ⟨_, rfl, fl, _, rfl, .inl (SqL.of (e6 _ _ P.f)), _, _, rfl, rfl, (by show (0 : Int) < ((fs.map V.str).length : Int); omega), ?_⟩⟩
  obtain ⟨f, fm, hf⟩ := Qca (ws := fs) (i := n3 % ((fs.map V.str).length : Int)) (Int.emod_nonneg _ (by omega)) (by rw [← lfm]; exact Int.emod_lt_of_pos _ (by omega))
  refine .inl ⟨fl, _, _, _, rfl, rfl, SqL.of (e6 _ _ P.f), hf, ?_⟩
  refine ⟨_, rfl, _, rfl, _, _, rfl, rfl, _, _, rfl, by omega, fun n4 n40 n41 => ⟨_, _, rfl, rfl, (by show (0 : Int) < 4; decide), _, rfl, ?_⟩⟩
  have n4m := Int.emod_nonneg n4 (show (4 : Int) ≠ 0 by decide)
  refine ⟨_, rfl, .inl ⟨rfl, _, SqL.of hm6⟩, _, rfl, _, rfl, _, _, rfl, rfl, Qb9 (by omega) (by omega) (by omega) (by omega), _, _, rfl, rfl, _, _, rfl, by omega, fun n9 n90 n91 => ⟨_, rfl, m, _, rfl, .inl (SqL.of hm6), _, _, rfl, rfl, _, _, rfl, rfl, (by show (0 : Int) < ((rfw R').length : Int) + 1; omega), _, rfl, _, rfl, _, rfl, (by show 3 ≤ sizeLine; decide), fun y hy => ?_⟩⟩
  have fy := Qae (o := tup3 (y, h, f, (-(n4 % 4)))) hy
  have hm7 := fy _ _ hm6
  have nym : y ≠ m := fun w => by
   rw [w, hm6] at hy
   cases hy
  have w0 := Int.emod_nonneg n9 (show ((rfw R').length : Int) + 1 ≠ 0 by omega)
  have w1 := Int.emod_lt_of_pos n9 (show 0 < ((rfw R').length : Int) + 1 by omega)
  have hk : ((n9 % (((rfw R').length : Int) + 1)).toNat : Int) = n9 % (((rfw R').length : Int) + 1) := Int.toNat_of_nonneg w0
  refine ⟨m, _, (n9 % (((rfw R').length : Int) + 1)).toNat, _, rfl, congrArg (fun z => [V.int z, V.ref y]) hk.symm, hm7, (by omega), (by rw [Qay]; omega), ?_⟩
  rw [Qel R' _ (y, h, f, (-(n4 % 4)))]
  refine ⟨_, _, _, _, _, _, _, R'.take (n9 % (((rfw R').length : Int) + 1)).toNat ++ (y, h, f, (-(n4 % 4))) :: R'.drop (n9 % (((rfw R').length : Int) + 1)).toNat, rfl, Qbb (e6.trans fy) m0X, Qab, fun z hz => ⟨?_, trivial⟩, (by rw [List.length_append, List.length_cons, List.length_take, List.length_drop]; omega), fun z hz => ?_, ?_⟩
  ·rcases Qg4 hz with c | c
   ·rw [c]
    exact Qa8 Qab hm7
   ·exact Qa8 (fy _ _ (hR6 z c).1) hm7
  ·rcases Qg4 hz with c | c
   ·rw [c]
    show (-(n4 % 4)) ≤ 1000000
    omega
   ·exact hs6 z c
  ·rw [Qah nev]
   exact fy _ _ hv6
 rintro σ H7 ⟨o7, o8, o9, o10, o11, o12, o13, R2, rfl, e7, hm7, hR7, hl7, hs7, hv7⟩
 exact ⟨_, rfl, q m R2 _ e7 m0X hm7 hR7 (by have := Int.emod_lt_of_pos (c / 12) (show (0 : Int) < 3 by decide); omega) hs7⟩
theorem Qlt {x : Str} : ∀ {l : List Str}, l.Pairwise (fun a b => ltS a b = true) → x ∉ l → ∃ zs : List Str, zs.Pairwise (fun a b => ltS a b = true) ∧ ∀ y, y ∈ zs ↔ y = x ∨ y ∈ l
 | [], _, _ => ⟨[x], List.pairwise_singleton .., fun y => by simp⟩
 | a :: l, h, hn => by
   obtain ⟨h1, h2⟩ := List.pairwise_cons.mp h
   have hxa : x ≠ a := fun e => hn (by rw [e]; exact List.mem_cons_self)
   by_cases c : ltS x a = true
   ·refine ⟨x :: a :: l, List.pairwise_cons.mpr ⟨fun y hy => ?_, h⟩, fun y => List.mem_cons⟩
    rcases List.mem_cons.mp hy with rfl | hy
    ·exact c
    ·exact Qgz c (h1 y hy)
   ·have c2 : ltS a x = true := by
     rw [Qes (Ne.symm hxa)]
     simpa using c
    obtain ⟨zs, p, m⟩ := Qlt h2 fun w => hn (List.mem_cons_of_mem _ w)
    refine ⟨a :: zs, List.pairwise_cons.mpr ⟨fun y hy => ?_, p⟩, fun y => ?_⟩
    ·rcases (m y).mp hy with rfl | hy
     ·exact c2
     ·exact h1 y hy
    ·rw [List.mem_cons, m y, List.mem_cons]
     constructor
     ·rintro (h | h | h)
      ·exact .inr (.inl h)
      ·exact .inl h
      ·exact .inr (.inr h)
     ·rintro (h | h | h)
      ·exact .inr (.inl h)
      ·exact .inl h
      ·exact .inr (.inr h)
theorem rg_ex (fs : List Str) (R : List Rw) : ∃ zs, Rg fs R zs := by
 have key : ∀ l : List Str, ∃ zs : List Str, zs.Pairwise (fun a b => ltS a b = true) ∧ ∀ x, x ∈ zs ↔ x ∈ l ∧ ¬ Led fs R x := by
  intro l
  induction l with
  | nil => exact ⟨[], List.Pairwise.nil, fun x => by simp⟩
  | cons a l ih =>
    obtain ⟨zs, p, m⟩ := ih
    by_cases c : Led fs R a ∨ a ∈ zs
    ·refine ⟨zs, p, fun x => ?_⟩
     rw [m x, List.mem_cons]
     constructor
     ·rintro ⟨a1, a2⟩
      exact ⟨.inr a1, a2⟩
     ·rintro ⟨a1 | a1, a2⟩
      ·subst a1
       rcases c with c | c
       ·exact absurd c a2
       ·exact (m x).mp c
      ·exact ⟨a1, a2⟩
    ·obtain ⟨ys, p2, m2⟩ := Qlt p (fun w => c (.inr w))
     refine ⟨ys, p2, fun x => ?_⟩
     rw [m2 x, m x, List.mem_cons]
     constructor
     ·rintro (rfl | ⟨a1, a2⟩)
      ·exact ⟨.inl rfl, fun w => c (.inl w)⟩
      ·exact ⟨.inr a1, a2⟩
     ·rintro ⟨a1 | a1, a2⟩
      ·exact .inl a1
      ·exact .inr ⟨a1, a2⟩
 exact key fs
def Cl (fs : List Str) (R : List Rw) (os : List Str) : Prop := ∀ z ∈ R, (z.2.1 ∉ fs ∨ z.2.1 ∈ os) → z.2.2.1 ∈ os
theorem cl_led {fs : List Str} {R : List Rw} {os : List Str} (h : Cl fs R os) {x : Str} (hx : Led fs R x) : x ∈ os := by
 induction hx with
 | st hz hn => exact h _ hz (.inl hn)
 | fm hz _ ih => exact h _ hz (.inr ih)
theorem Qnp {fs : List Str} {R : List Rw} {os : List Str} (hn : os.Nodup) (hs : ∀ x ∈ os, x ∈ fs) (hl : fs.length ≤ os.length) (hR : ∀ z ∈ R, z.2.2.1 ∈ fs) : Cl fs R os := fun z hz _ => by
 refine Decidable.byContradiction fun w => ?_
 have := Qbx (z.2.2.1 :: os) fs (List.nodup_cons.mpr ⟨w, hn⟩) fun x hx => by
  rcases List.mem_cons.mp hx with rfl | hx
  ·exact hR z hz
  ·exact hs x hx
 rw [List.length_cons] at this
 omega
def spRgL : Sp := fun vs H Q _ => ∃ (fl l : Addr) (fs : List Str) (R : List Rw) (gs es : List Str), vs = [.ref fl, .ref l] ∧ H fl = some (.lst (fs.map V.str)) ∧ fs.Nodup ∧ fs.length ≤ 6 ∧ H l = some (.lst (rfw R)) ∧ RX H gs es R ∧ R.length ≤ 62 ∧ (∀ z ∈ R, z.2.2.1 ∈ fs) ∧ ∀ (p : Addr) (zs : List Str) H', Same H H' → H p = none → H' p = some (.lst (zs.map V.str)) → Rg fs R zs → Q (.ref p) H'
def Tl4 (H : Hp) (t : Addr) : Rf → Prop
 | .firm s => H t = some (.tup [.str "NoFirm", .str s])
 | .amt x => H t = some (.tup [.str "BadAmount", .int x])
 | .held s => H t = some (.tup [.str "Unheld", .str s])
 | .ring zs => ∃ l, H t = some (.tup [.str "Ringed", .ref l]) ∧ H l = some (.lst (zs.map V.str))
theorem Tl4.same {H H' : Hp} {t : Addr} {r : Rf} (h : Tl4 H t r) (e : Same H H') : Tl4 H' t r := by
 cases r with
 | firm s => exact e _ _ h
 | amt s => exact e _ _ h
 | held s => exact e _ _ h
 | ring zs =>
   obtain ⟨l, h1, h2⟩ := h
   exact ⟨l, e _ _ h1, e _ _ h2⟩
def TV (H : Hp) (v : V) : Option Rf → Prop
 | none => v = .non
 | some r => ∃ t, v = .ref t ∧ Tl4 H t r
theorem TV.same {H H' : Hp} {v : V} {o : Option Rf} (h : TV H v o) (e : Same H H') : TV H' v o := by
 cases o with
 | none => exact h
 | some r =>
   obtain ⟨t, h1, h2⟩ := h
   exact ⟨t, h1, h2.same e⟩
def spDu : Sp := fun vs H Q _ => ∃ (fl l : Addr) (fs : List Str) (R : List Rw) (zs gs es : List Str), vs = [.ref fl, .ref l] ∧ H fl = some (.lst (fs.map V.str)) ∧ H l = some (.lst (rfw R)) ∧ RX H gs es R ∧ Tx fs R zs ∧ ∀ (v : V) H', Same H H' → TV H' v (rfs fs R zs) → Q v H'
theorem scap0 : FnScope ["_law_firms", "_law_rows", "_law_out", "_law_k", "_law_row"] ["_law_firms", "_law_rows"] (defScope sap0) := fsc
theorem okap0 (D : Def K mg "_law_ring" sap0 .none) (z_range : mg "range" = none) (z_len : mg "len" = none) (z_sorted : mg "sorted" = none) : Cal P w K mg base CX0 true 1 "_law_ring" ["_law_firms", "_law_rows"] [] spRgL := by
 obtain ⟨f, fd, F, hm⟩ := D
 refine ⟨f, fd, _, F.ok scap0 (fun vs H Q E h => ?_) (fun cdv A outer s H vs Q E hr h => ?_), hm, F.kp, (F.b2), .nil, F.b2⟩
 ·obtain ⟨fl, l, fs, R, gs, es, rfl, hfl, hnd, h6, hl, hR, hlen, hin, q⟩ := h
  rfl
 obtain ⟨fl, l, fs, R, gs, es, rfl, hfl, hnd, h6, hl, hR, hlen, hin, q⟩ := h
 have nd := scap0.nd
 refine ⟨_, (Qac (Qaj (i := 2) nd rfl (Or.inr rfl) (Qba Qad))
  (Qac (Qbh PassesOwn.never rfl (Qa1 rfl z_range (Qaa (Qan Qam rfl z_len Qbn (Qaa (pv 0) Qad)) Qad)) (Qar (i := 3) nd rfl (Or.inl rfl)) (Qag (Qbh PassesOwn.never rfl (Qas (pv 1)) (Qar (i := 4) nd rfl (Or.inl rfl)) (Qag (Qbo (PW.pt (Qid (Qao Qbr (Qax Qav (pv 4) Qaf (fun _ _ => rfl)) (pv 2) (by with_unfolding_all rfl)) (Qfz (PW.pt (Qkd (Qao Qbr (Qax Qav (pv 4) Qaf (fun _ _ => rfl)) (pv 0) (by with_unfolding_all rfl)) (Qgr (Qao Qfd (Qax Qav (pv 4) Qaf (fun _ _ => rfl)) (pv 2) (by with_unfolding_all rfl)))))))) (Qag (Qa9 (Qc0 PySem.F.plainAttrs_list PySem.F.slot_list_append PySem.F.type_list_append Qb5 (pv 2) (Qaa (Qax Qav (pv 4) Qaf (fun _ _ => rfl)) Qad)))) Qaw)))))
  (Qag (Qaq (Qan Qdk rfl z_sorted Qfl (Qaa (Qcz [2] rfl (LcOk.free ["_law_out"] rfl rfl (List.forall_mem_cons.mpr ⟨rfl, (fun _ h => nomatch h)⟩) (by decide+kernel) rfl (by decide+kernel) rfl (by decide+kernel) (show (["_law_firm", "_law_out"] : List Str).Nodup from by decide+kernel) (List.forall_mem_cons.mpr ⟨⟨_, rfl, rfl, rfl, by decide+kernel⟩, (fun _ h => nomatch h)⟩)) (Qas (pv 0)) (fun C s2 H2 fp xe => (Qao Qbv (pv 0) (pv 1) (by with_unfolding_all rfl))) (fun C s2 H2 fp xe => (pv 0))) Qad)))))), ?_⟩
 have hline : 10 ^ 6 ≤ sizeLine := by decide
 have lfm : (fs.map V.str).length = fs.length := List.length_map ..
 refine ⟨(by show 0 ≤ sizeLine; decide), fun op hop => ?_⟩
 have e1 := Qae (o := .lst []) hop
 refine ⟨_, rfl, fl, _, rfl, .inl (SqL.of (e1 _ _ hfl)), _, rfl, by omega, by omega, ?_⟩
 refine Qbk (fun k σ H' => ∃ (o3 o4 : Option V) (os : List Str), σ = [some (.ref fl), some (.ref l), some (.ref op), o3, o4] ∧ Same H H' ∧ H' op = some (.lst (os.map V.str)) ∧ os.Nodup ∧ (∀ x ∈ os, x ∈ fs ∧ Led fs R x) ∧ (Cl fs R os ∨ k ≤ os.length)) ⟨_, _, [], rfl, e1, Qab, List.nodup_nil, (fun x hx => nomatch hx), .inr (Nat.le_refl _)⟩ ?_ ?_
 ·rintro k σ H1 hk ⟨o3, o4, os0, rfl, e2, hop1, on0, os1, oc⟩
  refine ⟨_, rfl, l, rfl, ⟨_, SqL.of (e2 _ _ hl)⟩, ?_⟩
  refine Qb2 (xs := rfw R) (fun m σ H' => ∃ (o4 : Option V) (os : List Str), σ = [some (.ref fl), some (.ref l), some (.ref op), some (.int (0 + (k : Int))), o4] ∧ Same H H' ∧ H' op = some (.lst (os.map V.str)) ∧ os.Nodup ∧ (∀ x ∈ os, x ∈ fs ∧ Led fs R x) ∧ ((os = os0 ∧ ∀ z ∈ R.take m, (z.2.1 ∉ fs ∨ z.2.1 ∈ os0) → z.2.2.1 ∈ os0) ∨ (os0.length + 1 ≤ os.length ∧ ¬ Cl fs R os0))) ⟨_, os0, rfl, e2, hop1, on0, os1, .inl ⟨rfl, fun z hz => nomatch hz⟩⟩ ?_ ?_ ?_
  ·rintro m σ H2 hm ⟨o4, os, rfl, e3, _⟩
   exact SqL.of (e3 _ _ hl)
  ·rintro m x σ H2 hx ⟨o4, os, rfl, e3, hop2, on, osl, oa⟩
   obtain ⟨y, hy, rfl⟩ := Qci hx
   have ym := List.mem_of_getElem? hy
   have hTy := SqT.of (K := K) ((hR.same e3) y ym).1
   have ol : os.length ≤ 6 := by
    have := Qbx os fs on fun x hx => (osl x hx).1
    omega
   have olm : (os.map V.str).length = os.length := List.length_map ..
   have keep : ((y.2.1 ∉ fs ∨ y.2.1 ∈ os) → y.2.2.1 ∈ os) → ((os = os0 ∧ ∀ z ∈ R.take (m + 1), (z.2.1 ∉ fs ∨ z.2.1 ∈ os0) → z.2.2.1 ∈ os0) ∨ (os0.length + 1 ≤ os.length ∧ ¬ Cl fs R os0)) := fun hk => by
    rcases oa with ⟨a1, a2⟩ | a
    ·refine .inl ⟨a1, fun z hz => ?_⟩
     rw [Qat hy] at hz
     rcases List.mem_append.mp hz with c | c
     ·exact a2 z c
     ·rw [List.mem_singleton.mp c, ← a1]
      exact hk
    ·exact .inr a
   have add : y.2.2.1 ∉ os → (y.2.1 ∉ fs ∨ y.2.1 ∈ os) → ∃ (o4 : Option V) (os' : List Str), [some (.ref fl), some (.ref l), some (.ref op), some (.int (0 + (k : Int))), some (.ref y.1)] = [some (V.ref fl), some (.ref l), some (.ref op), some (.int (0 + (k : Int))), o4] ∧ Same H (upd H2 op (.lst (os.map V.str ++ [.str y.2.2.1]))) ∧ upd H2 op (.lst (os.map V.str ++ [.str y.2.2.1])) op = some (.lst (os'.map V.str)) ∧ os'.Nodup ∧ (∀ x ∈ os', x ∈ fs ∧ Led fs R x) ∧ ((os' = os0 ∧ ∀ z ∈ R.take (m + 1), (z.2.1 ∉ fs ∨ z.2.1 ∈ os0) → z.2.2.1 ∈ os0) ∨ (os0.length + 1 ≤ os'.length ∧ ¬ Cl fs R os0)) := fun h1 h2 => by
    refine ⟨_, os ++ [y.2.2.1], rfl, Qbb e3 hop, (by rw [Qab, List.map_append]; rfl), ?_, fun x hx => ?_, .inr ⟨?_, ?_⟩⟩
    ·refine List.nodup_append.mpr ⟨on, by simp, fun a ha b hb e => ?_⟩
     rw [List.mem_singleton.mp hb] at e
     exact h1 (by rw [← e]; exact ha)
    ·rcases List.mem_append.mp hx with c | c
     ·exact osl x c
     ·rw [List.mem_singleton.mp c]
      refine ⟨hin y ym, ?_⟩
      rcases h2 with h2 | h2
      ·exact .st ym h2
      ·exact .fm ym (osl _ h2).2
    ·rw [List.length_append]
     show os0.length + 1 ≤ os.length + 1
     rcases oa with ⟨a1, _⟩ | ⟨a, _⟩
     ·rw [a1]
      exact Nat.le_refl _
     ·omega
    ·rcases oa with ⟨a1, _⟩ | ⟨_, a⟩
     ·exact fun c => h1 (by rw [a1]; exact c y ym (by rw [← a1]; exact h2))
     ·exact a
   refine ⟨_, rfl, .inr (.inl ⟨y.1, _, 1, _, rfl, rfl, hTy, rfl, _, rfl, op, _, rfl, .inl (SqL.of hop2), rfl, Qbf _, _, rfl, ?_⟩)⟩
   rw [Qby]
   refine ndec2 (fun h1 => ?_) (fun h1 => iteF ⟨_, os, rfl, e3, hop2, on, osl, keep fun _ => h1⟩)
   refine ⟨_, rfl, .inr (.inl ⟨y.1, _, 0, _, rfl, rfl, hTy, rfl, _, rfl, fl, _, rfl, .inl (SqL.of (e3 _ _ hfl)), rfl, Qbf _, _, rfl, ?_⟩)⟩
   rw [Qby]
   refine ndec2 (fun h2 => iteT ⟨_, rfl, .inl ⟨rfl, _, SqL.of hop2⟩, _, rfl, .inr (.inl ⟨y.1, _, 1, _, rfl, rfl, hTy, rfl, op, _, _, rfl, rfl, hop2, (by omega), add h1 (.inl h2)⟩)⟩) (fun h2 => ?_)
   refine ⟨_, rfl, .inr (.inl ⟨y.1, _, 0, _, rfl, rfl, hTy, rfl, _, rfl, op, _, rfl, .inl (SqL.of hop2), rfl, Qbf _, _, rfl, ?_⟩)⟩
   rw [Qby]
   refine dec2 (fun h3 => ⟨_, rfl, .inl ⟨rfl, _, SqL.of hop2⟩, _, rfl, .inr (.inl ⟨y.1, _, 1, _, rfl, rfl, hTy, rfl, op, _, _, rfl, rfl, hop2, (by omega), add h1 (.inr h3)⟩)⟩) (fun h3 => ⟨_, os, rfl, e3, hop2, on, osl, keep fun w => ?_⟩)
   exact absurd w (fun w => w.elim (fun w => w h2) h3)
  rintro σ H2 ⟨o4, os, rfl, e3, hop2, on, osl, oa⟩
  rw [Qay, List.take_length] at oa
  refine ⟨_, _, os, rfl, e3, hop2, on, osl, ?_⟩
  rcases oa with ⟨a1, a2⟩ | ⟨a1, a2⟩
  ·exact .inl (by rw [a1]; exact a2)
  ·rcases oc with oc | oc
   ·exact absurd oc a2
   ·exact .inr (by omega)
 rintro σ H1 ⟨o3, o4, os, rfl, e2, hop1, on, osl, oc⟩
 have hcl : Cl fs R os := by
  rcases oc with oc | oc
  ·exact oc
  ·exact Qnp on (fun x hx => (osl x hx).1) (by rw [lfm, Int.toNat_natCast] at oc; exact oc) hin
 refine ⟨_, rfl, fl, rfl, ⟨_, SqL.of (e2 _ _ hfl)⟩, ?_⟩
 refine Qbe (xs := fs.map V.str) (fun j ys H' => ys = ((fs.take j).filter (fun f => decide (f ∉ os))).map V.str ∧ H' = H1) ⟨rfl, rfl⟩ (by rw [List.length_map]; omega) ?_ ?_ ?_
 ·rintro j ys H9 hj ⟨rfl, rfl⟩
  refine ⟨SqL.of (e2 _ _ hfl), ?_⟩
  rw [List.length_map]
  have h1 := List.length_filter_le (fun f => decide (f ∉ os)) (fs.take j)
  rw [List.length_take] at h1
  omega
 ·rintro j x ys H9 hx ⟨rfl, rfl⟩
  obtain ⟨f, hf, rfl⟩ := Qbq hx
  refine ⟨_, rfl, _, rfl, op, _, rfl, .inl (SqL.of hop1), rfl, Qbf _, _, rfl, ?_⟩
  rw [Qby]
  refine ndec2 (fun h2 => ?_) (fun h2 => ?_)
  ·refine ⟨_, rfl, ?_, rfl⟩
   rw [Qat hf, List.filter_append, List.filter_cons_of_pos (by simpa using h2), List.map_append]
   rfl
  ·refine ⟨?_, rfl⟩
   rw [Qat hf, List.filter_append, List.filter_cons_of_neg (by simpa using h2)]
   simp
 rintro ys H9 ⟨rfl, rfl⟩ k1 hk1
 rw [List.length_map, List.take_length]
 have lr : (fs.filter (fun f => decide (f ∉ os))).length ≤ fs.length := List.length_filter_le _ _
 have s1 := Qae (o := .lst ((fs.filter (fun f => decide (f ∉ os))).map V.str)) hk1
 refine ⟨k1, fs.filter (fun f => decide (f ∉ os)), rfl, SqL.of Qab, by omega, hnd.filter _, fun p zs hp pm pw => ?_⟩
 refine q p zs _ ((e2.trans s1).trans (Qae hp)) ((e2.trans s1).free hp) Qab ⟨pw, fun x => ?_⟩
 rw [pm.mem_iff, List.mem_filter, decide_eq_true_eq]
 constructor
 ·rintro ⟨a, b⟩
  exact ⟨a, fun w => b (cl_led hcl w)⟩
 ·rintro ⟨a, b⟩
  exact ⟨a, fun w => b (osl x w).2⟩
def spAkE (C1 C2 C3 C4 : Addr) : Sp := fun vs H Q Ex => ∃ (w : Int) (fl l : Addr) (fs : List Str) (R : List Rw) (zs gs es : List Str), vs = [.int w, .ref fl, .ref l] ∧ H fl = some (.lst (fs.map V.str)) ∧ H l = some (.lst (rfw R)) ∧ RX H gs es R ∧ Tx fs R zs ∧ (∀ r, rfs fs R zs = some r → Told C1 C2 C3 C4 H Ex r) ∧ (rfs fs R zs = none → Tb fs R → ∀ H', Same H H' → Q .non H')
theorem scai0 : FnScope ["_law_firms", "_law_rows", "_law_row", "_law_firm", "_law_ring_here"] ["_law_firms", "_law_rows"] (defScope sai0) := fsc
theorem okai0 (D : Def K mg "_law_due" sai0 .none) (cap0 : Cal P w K mg base CX0 true 1 "_law_ring" ["_law_firms", "_law_rows"] [] spRgL) : Cal P w K mg base CX0 true 2 "_law_due" ["_law_firms", "_law_rows"] [] spDu := by
 obtain ⟨f, fd, F, hm⟩ := D
 obtain ⟨fap0, fdap0, dap0, Gap0, map0, kap0, bap0, vap0, bap01⟩ := cap0
 refine ⟨f, fd, _, F.ok scai0 (fun vs H Q E h => ?_) (fun cdv A outer s H vs Q E hr h => ?_), hm, F.kp, (F.b2), .nil, F.b2⟩
 ·obtain ⟨fl, l, fs, R, zs, gs, es, rfl, hfl, hl, hR, T, q⟩ := h
  rfl
 obtain ⟨fl, l, fs, R, zs, gs, es, rfl, hfl, hl, hR, T, q⟩ := h
 have nd := scai0.nd
 refine ⟨_, (Qac (Qbh PassesOwn.never rfl (Qas (pv 1)) (Qar (i := 2) nd rfl (Or.inl rfl)) (Qag (Qbo (Qao Qbr (Qax Qav (pv 2) Qaf (fun _ _ => rfl)) (pv 0) (by with_unfolding_all rfl)) (Qag (Qaq (Qbp (Qaa Qbd (Qaa (Qax Qav (pv 2) Qaf (fun _ _ => rfl)) Qad))))) Qaw)))
  (Qac (Qbh PassesOwn.never rfl (Qas (pv 1)) (Qar (i := 2) nd rfl (Or.inl rfl)) (Qag (Qbo (Qao Qkj (Qax Qav (pv 2) Qaf (fun _ _ => rfl)) Qaf (nomark _)) (Qag (Qaq (Qbp (Qaa Qbd (Qaa (Qax Qav (pv 2) Qaf (fun _ _ => rfl)) Qad))))) Qaw)))
  (Qac (Qbh PassesOwn.never rfl (Qas (pv 0)) (Qar (i := 3) nd rfl (Or.inl rfl)) (Qag (Qbo (Qao Qbr (pv 3) (Qdl [] rfl (LcOk.plain (by decide+kernel) (by decide+kernel) rfl (by decide+kernel) rfl) (Qas (pv 1)) (fun C s2 H2 fp xe => (Qax Qa7 (pv 0) Qaf (fun _ _ => rfl)))) (by with_unfolding_all rfl)) (Qag (Qaq (Qbp (Qaa Qbd (Qaa (pv 3) Qad))))) Qaw)))
  (Qac (Qaj (i := 4) nd rfl (Or.inl rfl) (Qak Gap0 (hr.mono (by decide)) rfl map0 kap0 bap0 Paired.nil pass0 (Qaa (pv 0) (Qaa (pv 1) Qad))))
  (Qac (Qbo (Qao (Qdn hr) (pv 4) (Qba Qad) (nomark _)) (Qag (Qaq (Qbp (Qaa Qbd (Qaa (pv 4) Qad))))) Qaw)
  (Qag (Qaq Qdy))))))), ?_⟩
 have q1 : rfs fs R zs = none → ∀ H', Same H H' → Q .non H' := fun hn H' e => q _ H' e (by rw [hn]; rfl)
 have q2 : ∀ r, rfs fs R zs = some r → ∀ t H', Same H H' → Tl4 H' t r → Q (.ref t) H' := fun r hr t H' e ht => q _ H' e (by rw [hr]; exact ⟨t, rfl, ht⟩)
 clear q
 have hline : 10 ^ 6 ≤ sizeLine := by decide
 obtain ⟨hnd, h6, hlen, hs2, hrg⟩ := T
 have lfm : (fs.map V.str).length = fs.length := List.length_map ..
 refine ⟨_, rfl, l, rfl, ⟨_, SqL.of hl⟩, ?_⟩
 refine Qb2 (xs := rfw R) (fun i σ H' => ∃ (o2 : Option V), σ = [some (.ref fl), some (.ref l), o2, none, none] ∧ H' = H ∧ ∀ y ∈ R.take i, b1 fs y = false) ⟨_, rfl, rfl, fun y hy => nomatch hy⟩ ?_ ?_ ?_
 ·rintro i σ H1 hi ⟨o2, rfl, rfl, _⟩
  exact SqL.of hl
 ·rintro i x σ H1 hx ⟨o2, rfl, rfl, hn⟩
  obtain ⟨y, hy, rfl⟩ := Qci hx
  have hTy := SqT.of (K := K) (hR y (List.mem_of_getElem? hy)).1
  refine ⟨_, rfl, .inr (.inl ⟨y.1, _, 1, _, rfl, rfl, hTy, rfl, _, rfl, fl, _, rfl, .inl (SqL.of hfl), rfl, Qbf _, _, rfl, ?_⟩)⟩
  rw [Qby]
  refine ndec2 (fun h => ?_) (fun h => ?_)
  ·have hf := Qc4 hn hy (decide_eq_true h)
   have hr : rfs fs R zs = some (.firm y.2.2.1) := by simp only [rfs, hf]
   exact ⟨_, rfl, .inr (.inl ⟨y.1, _, 1, _, rfl, rfl, hTy, rfl, (by show 2 ≤ sizeLine; decide), fun t ht => q2 _ hr t _ (Qae ht) Qab⟩)⟩
  ·refine ⟨_, rfl, rfl, fun w hw => ?_⟩
   rw [Qat hy] at hw
   rcases List.mem_append.mp hw with c | c
   ·exact hn w c
   ·rw [List.mem_singleton.mp c]
    exact decide_eq_false fun w => w h
 rintro σ H1 ⟨o2, rfl, rfl, hn1⟩
 rw [Qay, List.take_length] at hn1
 have hr1 := Qch hn1
 refine ⟨_, rfl, l, rfl, ⟨_, SqL.of hl⟩, ?_⟩
 refine Qb2 (xs := rfw R) (fun i σ H' => ∃ (o2 : Option V), σ = [some (.ref fl), some (.ref l), o2, none, none] ∧ H' = H1 ∧ ∀ y ∈ R.take i, b2 y = false) ⟨_, rfl, rfl, fun y hy => nomatch hy⟩ ?_ ?_ ?_
 ·rintro i σ H2 hi ⟨o2, rfl, rfl, _⟩
  exact SqL.of hl
 ·rintro i x σ H2 hx ⟨o2, rfl, rfl, hn⟩
  obtain ⟨y, hy, rfl⟩ := Qci hx
  have hTy := SqT.of (K := K) (hR y (List.mem_of_getElem? hy)).1
  refine ⟨_, rfl, .inr (.inl ⟨y.1, _, 2, _, rfl, rfl, hTy, rfl, _, _, rfl, rfl, _, rfl, ?_⟩)⟩
  refine dec2 (fun h => ?_) (fun h => ?_)
  ·have hf := Qc4 hn hy (decide_eq_true h)
   have hr : rfs fs R zs = some (.amt y.2.2.2) := by simp only [rfs, hr1, hf]
   exact ⟨_, rfl, .inr (.inl ⟨y.1, _, 2, _, rfl, rfl, hTy, rfl, (by show 2 ≤ sizeLine; decide), fun t ht => q2 _ hr t _ (Qae ht) Qab⟩)⟩
  ·refine ⟨_, rfl, rfl, fun w hw => ?_⟩
   rw [Qat hy] at hw
   rcases List.mem_append.mp hw with c | c
   ·exact hn w c
   ·rw [List.mem_singleton.mp c]
    exact decide_eq_false h
 rintro σ H2 ⟨o2, rfl, rfl, hn2⟩
 rw [Qay, List.take_length] at hn2
 have hr2 := Qch hn2
 refine ⟨_, rfl, fl, rfl, ⟨_, SqL.of hfl⟩, ?_⟩
 refine Qb2 (xs := fs.map V.str) (fun i σ H' => ∃ (o2 o3 : Option V), σ = [some (.ref fl), some (.ref l), o2, o3, none] ∧ Same H2 H' ∧ ∀ y ∈ fs.take i, b3 R y = false) ⟨_, _, rfl, Qa0 _, fun y hy => nomatch hy⟩ ?_ ?_ ?_
 ·rintro i σ H3 hi ⟨o2, o3, rfl, e3, _⟩
  exact SqL.of (e3 _ _ hfl)
 ·rintro i x σ H3 hx ⟨o2, o3, rfl, e3, hn⟩
  obtain ⟨f, hf, rfl⟩ := Qbq hx
  refine ⟨_, rfl, _, rfl, l, rfl, ⟨_, SqL.of (e3 _ _ hl)⟩, ?_⟩
  refine Qb8 (xs := rfw R) (fun k ys H6 => ys = ((R.take k).map (·.2.2.1)).map V.str ∧ H6 = H3) ⟨rfl, rfl⟩ (by rw [Qay]; omega) ?_ ?_ ?_
  ·rintro k ys H6 hk ⟨rfl, rfl⟩
   refine ⟨SqL.of (e3 _ _ hl), ?_⟩
   rw [Qay] at hk
   rw [List.length_map, List.length_map, List.length_take]
   omega
  ·rintro k x ys H6 hx ⟨rfl, rfl⟩
   obtain ⟨y, hy, rfl⟩ := Qci hx
   have hTy := SqT.of (K := K) ((hR.same e3) y (List.mem_of_getElem? hy)).1
   refine ⟨_, rfl, .inr (.inl ⟨y.1, _, 1, _, rfl, rfl, hTy, rfl, ?_, rfl⟩)⟩
   rw [Qat hy, List.map_append, List.map_append]
   rfl
  rintro ys H6 ⟨rfl, rfl⟩ k1 hk1
  rw [Qay, List.take_length]
  have f6 := Qae (o := .lst ((R.map (·.2.2.1)).map V.str)) hk1
  have e5 := e3.trans f6
  refine ⟨k1, _, rfl, .inl (SqL.of Qab), rfl, Qbf _, _, rfl, ?_⟩
  rw [Qby]
  refine ndec2 (fun h => ?_) (fun h => ?_)
  ·have hr : rfs fs R zs = some (.held f) := by simp only [rfs, hr1, hr2, Qc4 hn hf (show b3 R f = true from decide_eq_true h)]
   exact ⟨_, rfl, (by show 2 ≤ sizeLine; decide), fun t ht => q2 _ hr t _ (e5.trans (Qae ht)) Qab⟩
  ·refine ⟨_, _, rfl, e5, fun w hw => ?_⟩
   rw [Qat hf] at hw
   rcases List.mem_append.mp hw with c | c
   ·exact hn w c
   ·rw [List.mem_singleton.mp c]
    exact decide_eq_false fun w => w h
 rintro σ H3 ⟨o2, o3, rfl, e3, hn3⟩
 rw [lfm, List.take_length] at hn3
 have hr3 := Qch hn3
 have hin : ∀ z ∈ R, z.2.2.1 ∈ fs := fun z hz => Decidable.byContradiction fun w => by
  have := hn1 z hz
  rw [show b1 fs z = true from decide_eq_true w] at this
  cases this
 refine ⟨_, rfl, _, rfl, fl, l, fs, R, gs, es, rfl, e3 _ _ hfl, hnd, h6, e3 _ _ hl, hR.same e3, hlen, hin, fun p ys H4 e4 hp0 hp hg => ?_⟩
 have ez : ys = zs := hg.uniq hrg
 subst ez
 refine ⟨_, rfl, (by show 0 ≤ sizeLine; decide), fun l0 hl0 => ?_⟩
 have f5 := Qae (o := .lst []) hl0
 have e5 := (e3.trans e4).trans f5
 refine ⟨p, l0, _, _, rfl, rfl, SqL.of (f5 _ _ hp), SqL.of Qab, ?_⟩
 cases hys : ys with
 | nil =>
   refine .inr ⟨⟨rfl, fun j x y h => nomatch h⟩, _, rfl, iteF ?_⟩
   rw [hys] at q1
   exact q1 (by simp only [rfs, hr1, hr2, hr3]; rfl) _ e5
 | cons y0 yr =>
   refine .inl ⟨by simp, _, rfl, iteT ?_⟩
   have hr : rfs fs R ys = some (.ring ys) := by
    simp only [rfs, hr1, hr2, hr3]
    rw [if_neg (by rw [hys]; simp)]
   exact ⟨_, rfl, (by show 2 ≤ sizeLine; decide), fun t ht => q2 _ hr t _ (e5.trans (Qae ht)) ⟨p, Qab, (Qae ht) _ _ (f5 _ _ hp)⟩⟩
theorem scaf0 : FnScope ["_law_which", "_law_firms", "_law_rows"] ["_law_which", "_law_firms", "_law_rows"] (defScope saf0) := fsc
theorem okaf0 (D : Def K mg "_law_asked" saf0 .none) {C_BadAmount C_NoFirm C_Ringed C_Unheld : Addr} (cat0 : Cal P w K mg base (CX1 P w) true 5 "checked" ["firms", "rows"] [] (spChkE C_NoFirm C_BadAmount C_Unheld C_Ringed)) (cba0 : Cal P w K mg base (CX1 P w) true 7 "last_parts" ["firms", "rows"] [] (spLst C_NoFirm C_BadAmount C_Unheld C_Ringed)) (cax0 : Cal P w K mg base (CX1 P w) true 7 "firm_parts" ["firms", "rows"] [] (spLst C_NoFirm C_BadAmount C_Unheld C_Ringed)) : Cal P w K mg base (CX1 P w) true 8 "_law_asked" ["_law_which", "_law_firms", "_law_rows"] [] (spAkE C_NoFirm C_BadAmount C_Unheld C_Ringed) := by
 obtain ⟨f, fd, F, hm⟩ := D
 obtain ⟨fat0, fdat0, dat0, Gat0, mat0, kat0, bat0, vat0, bat01⟩ := cat0
 obtain ⟨fba0, fdba0, dba0, Gba0, mba0, kba0, bba0, vba0, bba01⟩ := cba0
 obtain ⟨fax0, fdax0, dax0, Gax0, max0, kax0, bax0, vax0, bax01⟩ := cax0
 refine ⟨f, fd, _, F.okX scaf0 (fun vs H Q E h => ?_) (fun cdv A outer s H vs Q E hr h => ?_), hm, F.kp, (F.b3), .nil, F.b3⟩
 ·obtain ⟨w, fl, l, fs, R, zs, gs, es, rfl, hfl, hl, hR, TX, q2, q1⟩ := h
  rfl
 obtain ⟨w, fl, l, fs, R, zs, gs, es, rfl, hfl, hl, hR, TX, q2, q1⟩ := h
 have nd := scaf0.nd
 refine ⟨_, (Qag (Qbo (Qao Qb4 (pv 0) Qaf (nomark _)) (Qag (Qa9 (Qbu Gat0 (hr.mono (by decide)) rfl mat0 kat0 bat0 Paired.nil Qcs (Qaa (pv 1) (Qaa (pv 2) Qad))))) (Qag (Qbo (Qao Qb4 (pv 0) Qaf (nomark _)) (Qag (Qa9 (Qbu Gba0 (hr.mono (by decide)) rfl mba0 kba0 bba0 Paired.nil Qcs (Qaa (pv 1) (Qaa (pv 2) Qad))))) (Qag (Qa9 (Qbu Gax0 (hr.mono (by decide)) rfl max0 kax0 bax0 Paired.nil Qcs (Qaa (pv 1) (Qaa (pv 2) Qad))))))))), ?_⟩
 refine ⟨_, rfl, rfl, _, rfl, ?_⟩
 refine dec2 (fun h => ?_) (fun h => ?_)
 ·exact ⟨_, rfl, _, rfl, True.intro, fl, l, fs, R, zs, gs, es, rfl, hfl, hl, hR, TX, (fun hn T H1 e1 => q1 hn T _ e1), q2⟩
 refine ⟨_, rfl, rfl, _, rfl, ?_⟩
 refine dec2 (fun h => ?_) (fun h => ?_)
 ·exact ⟨_, rfl, _, rfl, True.intro, fl, l, fs, R, zs, gs, es, rfl, hfl, hl, hR, TX, q2, fun hn T t W H1 e1 _ _ => q1 hn T _ e1⟩
 ·exact ⟨_, rfl, _, rfl, True.intro, fl, l, fs, R, zs, gs, es, rfl, hfl, hl, hR, TX, q2, fun hn T t W H1 e1 _ _ => q1 hn T _ e1⟩
theorem Qcp {X : Cx} {x : Addr} {e : Expr} {f : Str} {pos : Pos} {ta : TE} (he : PE (sup X x) e ta) (hb : attributeBase e f (sup X x).env (eval e (sup X x).env) = eval e (sup X x).env) : PE (sup X x) (.Attribute e f pos) (tFldX X.K ta f) := Qmn (X := sup X x) he hb
theorem Qey {X : Cx} {x : Addr} : CallR (sup X x) (.type "list") (fun xs H Q => ∃ p ys, xs = [.ref p] ∧ (SqL X.K H p ys ∨ SqT X.K H p ys) ∧ ∀ l, H l = none → Q (.ref l) (upd H l (.lst ys))) := Qbm (X := sup X x)
theorem Qhn (n : Str) (v : V) : (fX n v).lookup n = some v := by
 unfold fX
 rw [Qc1, if_pos rfl]
def spRef : Sp := fun vs H Q _ => ∃ (w : Int) (fl l : Addr) (fs : List Str) (R : List Rw) (zs gs es : List Str), vs = [.int w, .ref fl, .ref l] ∧ H fl = some (.lst (fs.map V.str)) ∧ H l = some (.lst (rfw R)) ∧ RX H gs es R ∧ Tx fs R zs ∧ ∀ (v : V) H', Same H H' → TV H' v (rfs fs R zs) → Q v H'
theorem scao0 : FnScope ["_law_which", "_law_firms", "_law_rows", "_law_told", "e"] ["_law_which", "_law_firms", "_law_rows"] (defScope sao0) := fsc
theorem okao0 (D : Def K mg "_law_refused" sao0 .none) {C_BadAmount C_NoFirm C_Ringed C_Unheld : Addr} (caf0 : Cal P w K mg base (CX1 P w) true 8 "_law_asked" ["_law_which", "_law_firms", "_law_rows"] [] (spAkE C_NoFirm C_BadAmount C_Unheld C_Ringed)) (z_isinstance : mg "isinstance" = none) (z_list : mg "list" = none) (m_NoFirm : mg "NoFirm" = some (.ref C_NoFirm)) (m_BadAmount : mg "BadAmount" = some (.ref C_BadAmount)) (m_Unheld : mg "Unheld" = some (.ref C_Unheld)) (m_Ringed : mg "Ringed" = some (.ref C_Ringed)) (X_NoFirm : XCls K C_NoFirm) (X_BadAmount : XCls K C_BadAmount) (X_Unheld : XCls K C_Unheld) (X_Ringed : XCls K C_Ringed) (n_name : NoAttr K C_NoFirm "name") (n_amount : NoAttr K C_BadAmount "amount") (n_firm : NoAttr K C_Unheld "firm") (n_ring : NoAttr K C_Ringed "ring") (q_00 : exmOne K (.ref C_NoFirm) (.ref C_NoFirm) = some true) (q_10 : exmOne K (.ref C_BadAmount) (.ref C_NoFirm) = some false) (q_11 : exmOne K (.ref C_BadAmount) (.ref C_BadAmount) = some true) (q_20 : exmOne K (.ref C_Unheld) (.ref C_NoFirm) = some false) (q_21 : exmOne K (.ref C_Unheld) (.ref C_BadAmount) = some false) (q_22 : exmOne K (.ref C_Unheld) (.ref C_Unheld) = some true) (q_30 : exmOne K (.ref C_Ringed) (.ref C_NoFirm) = some false) (q_31 : exmOne K (.ref C_Ringed) (.ref C_BadAmount) = some false) (q_32 : exmOne K (.ref C_Ringed) (.ref C_Unheld) = some false) (q_33 : exmOne K (.ref C_Ringed) (.ref C_Ringed) = some true) : Cal P w K mg base CX0 true 9 "_law_refused" ["_law_which", "_law_firms", "_law_rows"] [] spRef := by
 obtain ⟨f, fd, F, hm⟩ := D
 obtain ⟨faf0, fdaf0, daf0, Gaf0, maf0, kaf0, baf0, vaf0, baf01⟩ := caf0
 refine ⟨f, fd, _, F.ok scao0 (fun vs H Q E h => ?_) (fun cdv A outer s H vs Q E hr h => ?_), hm, F.kp, (F.b3), .nil, F.b3⟩
 ·obtain ⟨w, fl, l, fs, R, zs, gs, es, rfl, hfl, hl, hR, TX, q⟩ := h
  rfl
 obtain ⟨w, fl, l, fs, R, zs, gs, es, rfl, hfl, hl, hR, TX, q⟩ := h
 have nd := scao0.nd
 refine ⟨_, (Qac (Qaj (i := 3) nd rfl (Or.inl rfl) Qdy)
  (Qac (Qml rfl rfl (fun pn E' R Ek hpo hxe => (Qag (Qa9 (Qbu Gaf0 (hr.mono (by decide)) rfl maf0 kaf0 baf0 Paired.nil hxe (Qaa (pv 0) (Qaa (pv 1) (Qaa (pv 2) Qad))))))) (Qkf (i := 4) nd rfl rfl rfl m_NoFirm (fun _ => (Qag (Qaj (i := 3) nd rfl (Or.inl rfl) (Qbp (Qaa Qbd (Qaa (Qcp (pv 4) rfl) Qad)))))) (Qkf (i := 4) nd rfl rfl rfl m_BadAmount (fun _ => (Qag (Qaj (i := 3) nd rfl (Or.inl rfl) (Qbp (Qaa Qbd (Qaa (Qcp (pv 4) rfl) Qad)))))) (Qkf (i := 4) nd rfl rfl rfl m_Unheld (fun _ => (Qag (Qaj (i := 3) nd rfl (Or.inl rfl) (Qbp (Qaa Qbd (Qaa (Qcp (pv 4) rfl) Qad)))))) (Qkf (i := 4) nd rfl rfl rfl m_Ringed (fun _ => (Qac (Qaj (i := 3) nd rfl (Or.inl rfl) (Qbp (Qaa Qbd (Qaa Qdy Qad))))
  (Qag (Qbo (Qfb (Qan Qcc rfl z_isinstance Qa6 (Qaa (Qcp (pv 4) rfl) (Qaa (Qih (v := .ty "list") rfl z_list Qcm rfl) Qad)))) (Qac (Qaj (i := 3) nd rfl (Or.inl rfl) (Qbp (Qaa Qbd (Qaa (Qbt Qey rfl z_list Qcm (Qaa (Qcp (pv 4) rfl) Qad)) Qad))))
  (Qag (Qa9 (Qmo PySem.F.plainAttrs_list PySem.F.slot_list_clear PySem.F.type_list_clear Qkn (Qcp (pv 4) rfl))))) Qaw)))) ph_nil)))))
  (Qag (Qaq (pv 3))))), ?_⟩
 have q1 : rfs fs R zs = none → ∀ H', Same H H' → Q .non H' := fun hn H' e => q _ H' e (by rw [hn]; rfl)
 have q2 : ∀ r, rfs fs R zs = some r → ∀ t H', Same H H' → Tl4 H' t r → Q (.ref t) H' := fun r hr t H' e ht => q _ H' e (by rw [hr]; exact ⟨t, rfl, ht⟩)
 clear q
 refine ⟨_, rfl, _, rfl, _, rfl, rfl, w, fl, l, fs, R, zs, gs, es, rfl, hfl, hl, hR, TX, (fun r hr => ?_), fun hn T H1 e1 => ⟨_, rfl, q1 hn _ e1⟩⟩
 have q2 := q2 r hr
 cases r with
 | firm s =>
   intro d H' e hd0 hd
   refine .inl ⟨q_00, fun x hx => ?_⟩
   have nx : d ≠ x := fun z => by
    rw [z, hx] at hd
    cases hd
   have f := Qae (o := excO x (.ref C_NoFirm) (some d)) hx
   refine ⟨_, rfl, x, C_NoFirm, d, _, _, rfl, Qab, (by rw [Qah nx]; exact hd), X_NoFirm, n_name, Qhn _ _, (by show 2 ≤ sizeLine; decide), fun t ht => ?_⟩
   exact ⟨_, rfl, q2 t _ ((e.trans f).trans (Qae ht)) Qab⟩
 | amt s =>
   intro d H' e hd0 hd
   refine .inr ⟨q_10, .inl ⟨q_11, fun x hx => ?_⟩⟩
   have nx : d ≠ x := fun z => by
    rw [z, hx] at hd
    cases hd
   have f := Qae (o := excO x (.ref C_BadAmount) (some d)) hx
   refine ⟨_, rfl, x, C_BadAmount, d, _, _, rfl, Qab, (by rw [Qah nx]; exact hd), X_BadAmount, n_amount, Qhn _ _, (by show 2 ≤ sizeLine; decide), fun t ht => ?_⟩
   exact ⟨_, rfl, q2 t _ ((e.trans f).trans (Qae ht)) Qab⟩
 | held s =>
   intro d H' e hd0 hd
   refine .inr ⟨q_20, .inr ⟨q_21, .inl ⟨q_22, fun x hx => ?_⟩⟩⟩
   have nx : d ≠ x := fun z => by
    rw [z, hx] at hd
    cases hd
   have f := Qae (o := excO x (.ref C_Unheld) (some d)) hx
   refine ⟨_, rfl, x, C_Unheld, d, _, _, rfl, Qab, (by rw [Qah nx]; exact hd), X_Unheld, n_firm, Qhn _ _, (by show 2 ≤ sizeLine; decide), fun t ht => ?_⟩
   exact ⟨_, rfl, q2 t _ ((e.trans f).trans (Qae ht)) Qab⟩
 | ring ys =>
   intro d l0 H' e hd0 hl0 hd hl1
   refine .inr ⟨q_30, .inr ⟨q_31, .inr ⟨q_32, .inl ⟨q_33, fun x hx => ?_⟩⟩⟩⟩
   have nx : d ≠ x := fun z => by
    rw [z, hx] at hd
    cases hd
   have f := Qae (o := excO x (.ref C_Ringed) (some d)) hx
   have eA := e.trans f
   have hxA : upd H' x (excO x (.ref C_Ringed) (some d)) x = some (excO x (.ref C_Ringed) (some d)) := Qab
   have hdA := f _ _ hd
   have hlA := f _ _ hl1
   generalize upd H' x (excO x (.ref C_Ringed) (some d)) = HA at f eA hxA hdA hlA ⊢
   refine ⟨(by show 2 ≤ sizeLine; decide), fun t0 ht0 => ?_⟩
   have g := Qae (o := .tup [.str "Ringed", .non]) ht0
   have eB := eA.trans g
   have hxB := g _ _ hxA
   have hdB := g _ _ hdA
   have hlB := g _ _ hlA
   generalize upd HA t0 (.tup [.str "Ringed", .non]) = HB at g eB hxB hdB hlB ⊢
   refine ⟨_, rfl, x, C_Ringed, d, _, _, rfl, hxB, hdB, X_Ringed, n_ring, Qhn _ _, _, _, _, _, _, rfl, .of (.lst hlB), rfl, rfl, _, rfl, iteT ?_⟩
   refine ⟨_, rfl, x, C_Ringed, d, _, _, rfl, hxB, hdB, X_Ringed, n_ring, Qhn _ _, l0, _, rfl, .inl (SqL.of hlB), fun l1 hl10 => ⟨(by show 2 ≤ sizeLine; decide), fun t ht => ?_⟩⟩
   have g2 := Qae (o := .lst (ys.map V.str)) hl10
   have g3 := Qae (o := .tup [.str "Ringed", .ref l1]) ht
   have g23 := g2.trans g3
   have hl1C := g3 _ _ (Qab (H := HB) (a := l1) (o := .lst (ys.map V.str)))
   have htC : upd (upd HB l1 (.lst (ys.map V.str))) t (.tup [.str "Ringed", .ref l1]) t = some (.tup [.str "Ringed", .ref l1]) := Qab
   have nl : l1 ≠ l0 := fun z => by
    rw [z, hlB] at hl10
    cases hl10
   generalize upd (upd HB l1 (.lst (ys.map V.str))) t (.tup [.str "Ringed", .ref l1]) = HC at g3 g23 hl1C htC ⊢
   refine ⟨_, rfl, x, C_Ringed, d, _, _, rfl, g23 _ _ hxB, g23 _ _ hdB, X_Ringed, n_ring, Qhn _ _, .inl ⟨rfl, _, SqL.of (g23 _ _ hlB)⟩, l0, _, rfl, rfl, g23 _ _ hlB, ?_⟩
   exact ⟨_, rfl, q2 t _ (Qbb (eB.trans g23) hl0) ⟨l1, Qa8 htC (g23 _ _ hlB), by rw [Qah nl]; exact hl1C⟩⟩
def wordOf : Rf → Str
 | .firm _ => "NoFirm"
 | .amt _ => "BadAmount"
 | .held _ => "Unheld"
 | .ring _ => "Ringed"
def spBB : Sp := fun vs H Q _ => ∃ (w : Int) (fl l : Addr) (fs : List Str) (R : List Rw) (zs gs es : List Str) (r : Rf), vs = [.int w, .ref fl, .ref l, .str (wordOf r)] ∧ H fl = some (.lst (fs.map V.str)) ∧ H l = some (.lst (rfw R)) ∧ RX H gs es R ∧ Tx fs R zs ∧ rfs fs R zs = some r ∧ ∀ H', Same H H' → Q (.bl true) H'
def clsOf (C1 C2 C3 C4 : Addr) : Rf → Addr
 | .firm _ => C1
 | .amt _ => C2
 | .held _ => C3
 | .ring _ => C4
theorem Qmb {C1 C2 C3 C4 : Addr} {H : Hp} {Ex : XK} {r : Rf} (h : ∀ d H', Same H H' → Ex (.ref (clsOf C1 C2 C3 C4 r)) (some d) H') : Told C1 C2 C3 C4 H Ex r := by
 cases r with
 | firm s => exact fun d H' e _ _ => h d H' e
 | amt s => exact fun d H' e _ _ => h d H' e
 | held s => exact fun d H' e _ _ => h d H' e
 | ring s => exact fun d _ H' e _ _ _ _ => h d H' e
theorem wd_00 : some true = some (decide (V.str "NoFirm" = V.str "NoFirm")) := by decide+kernel
theorem wd_01 : some false = some (decide (V.str "NoFirm" = V.str "BadAmount")) := by decide+kernel
theorem wd_02 : some false = some (decide (V.str "NoFirm" = V.str "Unheld")) := by decide+kernel
theorem wd_03 : some false = some (decide (V.str "NoFirm" = V.str "Ringed")) := by decide+kernel
theorem wd_10 : some false = some (decide (V.str "BadAmount" = V.str "NoFirm")) := by decide+kernel
theorem wd_11 : some true = some (decide (V.str "BadAmount" = V.str "BadAmount")) := by decide+kernel
theorem wd_12 : some false = some (decide (V.str "BadAmount" = V.str "Unheld")) := by decide+kernel
theorem wd_13 : some false = some (decide (V.str "BadAmount" = V.str "Ringed")) := by decide+kernel
theorem wd_20 : some false = some (decide (V.str "Unheld" = V.str "NoFirm")) := by decide+kernel
theorem wd_21 : some false = some (decide (V.str "Unheld" = V.str "BadAmount")) := by decide+kernel
theorem wd_22 : some true = some (decide (V.str "Unheld" = V.str "Unheld")) := by decide+kernel
theorem wd_23 : some false = some (decide (V.str "Unheld" = V.str "Ringed")) := by decide+kernel
theorem wd_30 : some false = some (decide (V.str "Ringed" = V.str "NoFirm")) := by decide+kernel
theorem wd_31 : some false = some (decide (V.str "Ringed" = V.str "BadAmount")) := by decide+kernel
theorem wd_32 : some false = some (decide (V.str "Ringed" = V.str "Unheld")) := by decide+kernel
theorem wd_33 : some true = some (decide (V.str "Ringed" = V.str "Ringed")) := by decide+kernel
theorem scag0 : FnScope ["_law_which", "_law_firms", "_law_rows", "_law_word", "_law_good_here", "e"] ["_law_which", "_law_firms", "_law_rows", "_law_word"] (defScope sag0) := fsc
theorem okag0 (D : Def K mg "_law_by_base" sag0 .none) {C_BadAmount C_BooksError C_NoFirm C_NoSister C_Ringed C_Singular C_Unheld : Addr} (caf0 : Cal P w K mg base (CX1 P w) true 8 "_law_asked" ["_law_which", "_law_firms", "_law_rows"] [] (spAkE C_NoFirm C_BadAmount C_Unheld C_Ringed)) (z_isinstance : mg "isinstance" = none) (z_ValueError : mg "ValueError" = none) (m_BooksError : mg "BooksError" = some (.ref C_BooksError)) (m_Singular : mg "Singular" = some (.ref C_Singular)) (m_NoSister : mg "NoSister" = some (.ref C_NoSister)) (m_NoFirm : mg "NoFirm" = some (.ref C_NoFirm)) (m_BadAmount : mg "BadAmount" = some (.ref C_BadAmount)) (m_Unheld : mg "Unheld" = some (.ref C_Unheld)) (m_Ringed : mg "Ringed" = some (.ref C_Ringed)) (X_NoFirm : XCls K C_NoFirm) (X_BadAmount : XCls K C_BadAmount) (X_Unheld : XCls K C_Unheld) (X_Ringed : XCls K C_Ringed) (q_b0 : exmOne K (.ref C_NoFirm) (.ref C_BooksError) = some true) (q_v0 : kitOne K (.ref C_NoFirm) (.type "ValueError") = some true) (q_s0 : kitOne K (.ref C_NoFirm) (.ref C_Singular) = some false) (q_o0 : kitOne K (.ref C_NoFirm) (.ref C_NoSister) = some false) (q_w00 : kitOne K (.ref C_NoFirm) (.ref C_NoFirm) = some true) (q_w01 : kitOne K (.ref C_NoFirm) (.ref C_BadAmount) = some false) (q_w02 : kitOne K (.ref C_NoFirm) (.ref C_Unheld) = some false) (q_w03 : kitOne K (.ref C_NoFirm) (.ref C_Ringed) = some false) (q_b1 : exmOne K (.ref C_BadAmount) (.ref C_BooksError) = some true) (q_v1 : kitOne K (.ref C_BadAmount) (.type "ValueError") = some true) (q_s1 : kitOne K (.ref C_BadAmount) (.ref C_Singular) = some false) (q_o1 : kitOne K (.ref C_BadAmount) (.ref C_NoSister) = some false) (q_w10 : kitOne K (.ref C_BadAmount) (.ref C_NoFirm) = some false) (q_w11 : kitOne K (.ref C_BadAmount) (.ref C_BadAmount) = some true) (q_w12 : kitOne K (.ref C_BadAmount) (.ref C_Unheld) = some false) (q_w13 : kitOne K (.ref C_BadAmount) (.ref C_Ringed) = some false) (q_b2 : exmOne K (.ref C_Unheld) (.ref C_BooksError) = some true) (q_v2 : kitOne K (.ref C_Unheld) (.type "ValueError") = some true) (q_s2 : kitOne K (.ref C_Unheld) (.ref C_Singular) = some false) (q_o2 : kitOne K (.ref C_Unheld) (.ref C_NoSister) = some false) (q_w20 : kitOne K (.ref C_Unheld) (.ref C_NoFirm) = some false) (q_w21 : kitOne K (.ref C_Unheld) (.ref C_BadAmount) = some false) (q_w22 : kitOne K (.ref C_Unheld) (.ref C_Unheld) = some true) (q_w23 : kitOne K (.ref C_Unheld) (.ref C_Ringed) = some false) (q_b3 : exmOne K (.ref C_Ringed) (.ref C_BooksError) = some true) (q_v3 : kitOne K (.ref C_Ringed) (.type "ValueError") = some true) (q_s3 : kitOne K (.ref C_Ringed) (.ref C_Singular) = some false) (q_o3 : kitOne K (.ref C_Ringed) (.ref C_NoSister) = some false) (q_w30 : kitOne K (.ref C_Ringed) (.ref C_NoFirm) = some false) (q_w31 : kitOne K (.ref C_Ringed) (.ref C_BadAmount) = some false) (q_w32 : kitOne K (.ref C_Ringed) (.ref C_Unheld) = some false) (q_w33 : kitOne K (.ref C_Ringed) (.ref C_Ringed) = some true) : Cal P w K mg base CX0 true 9 "_law_by_base" ["_law_which", "_law_firms", "_law_rows", "_law_word"] [] spBB := by
 obtain ⟨f, fd, F, hm⟩ := D
 obtain ⟨faf0, fdaf0, daf0, Gaf0, maf0, kaf0, baf0, vaf0, baf01⟩ := caf0
 refine ⟨f, fd, _, F.ok scag0 (fun vs H Q E h => ?_) (fun cdv A outer s H vs Q E hr h => ?_), hm, F.kp, (F.b4), .nil, F.b4⟩
 ·obtain ⟨w, fl, l, fs, R, zs, gs, es, r, rfl, hfl, hl, hR, TX, hrr, q⟩ := h
  rfl
 obtain ⟨w, fl, l, fs, R, zs, gs, es, r, rfl, hfl, hl, hR, TX, hrr, q⟩ := h
 have nd := scag0.nd
 refine ⟨_, (Qac (Qaj (i := 4) nd rfl (Or.inl rfl) Qhh)
  (Qac (ps_try (i := 5) nd rfl rfl rfl rfl rfl m_BooksError (fun pn E' R Ek hpo hxe => (Qag (Qa9 (Qbu Gaf0 (hr.mono (by decide)) rfl maf0 kaf0 baf0 Paired.nil hxe (Qaa (pv 0) (Qaa (pv 1) (Qaa (pv 2) Qad))))))) (fun _ => (Qac (Qaj (i := 4) nd rfl (Or.inl rfl) (Qdz (Qan Qcc rfl z_isinstance Qa6 (Qaa (pv 5) (Qaa (Qih (v := .ty "ValueError") rfl z_ValueError Qe1 rfl) Qad))) (Qdz (Qlk (Qan Qcc rfl z_isinstance Qa6 (Qaa (pv 5) (Qaa (Qdd (v := .ref C_Singular) rfl m_Singular rfl) Qad)))) (Qdx (Qlk (Qan Qcc rfl z_isinstance Qa6 (Qaa (pv 5) (Qaa (Qdd (v := .ref C_NoSister) rfl m_NoSister rfl) Qad))))))))
  (Qac (Qaj (i := 4) nd rfl (Or.inl rfl) (Qdz (pv 4) (Qdx (Qbz Qb4 (Qan Qcc rfl z_isinstance Qa6 (Qaa (pv 5) (Qaa (Qdd (v := .ref C_NoFirm) rfl m_NoFirm rfl) Qad))) (Qbz Qb4 (pv 3) Qbd (nomark _)) (nomark _)))))
  (Qac (Qaj (i := 4) nd rfl (Or.inl rfl) (Qdz (pv 4) (Qdx (Qbz Qb4 (Qan Qcc rfl z_isinstance Qa6 (Qaa (pv 5) (Qaa (Qdd (v := .ref C_BadAmount) rfl m_BadAmount rfl) Qad))) (Qbz Qb4 (pv 3) Qbd (nomark _)) (nomark _)))))
  (Qac (Qaj (i := 4) nd rfl (Or.inl rfl) (Qdz (pv 4) (Qdx (Qbz Qb4 (Qan Qcc rfl z_isinstance Qa6 (Qaa (pv 5) (Qaa (Qdd (v := .ref C_Unheld) rfl m_Unheld rfl) Qad))) (Qbz Qb4 (pv 3) Qbd (nomark _)) (nomark _)))))
  (Qag (Qaj (i := 4) nd rfl (Or.inl rfl) (Qdz (pv 4) (Qdx (Qbz Qb4 (Qan Qcc rfl z_isinstance Qa6 (Qaa (pv 5) (Qaa (Qdd (v := .ref C_Ringed) rfl m_Ringed rfl) Qad))) (Qbz Qb4 (pv 3) Qbd (nomark _)) (nomark _))))))))))))
  (Qag (Qaq (pv 4))))), ?_⟩
 refine ⟨_, rfl, _, rfl, _, rfl, rfl, w, fl, l, fs, R, zs, gs, es, rfl, hfl, hl, hR, TX, (fun r2 hr2 => ?_), fun hn T H1 e1 => by rw [hrr] at hn; cases hn⟩
 rw [hrr] at hr2
 cases hr2
 refine Qmb fun d H' e => ?_
 have hX : XCls K (clsOf C_NoFirm C_BadAmount C_Unheld C_Ringed r) := by
  cases r with
  | firm _ => exact X_NoFirm
  | amt _ => exact X_BadAmount
  | held _ => exact X_Unheld
  | ring _ => exact X_Ringed
 have hb : exmOne K (.ref (clsOf C_NoFirm C_BadAmount C_Unheld C_Ringed r)) (.ref C_BooksError) = some true := by
  cases r with
  | firm _ => exact q_b0
  | amt _ => exact q_b1
  | held _ => exact q_b2
  | ring _ => exact q_b3
 have hv : kitOne K (.ref (clsOf C_NoFirm C_BadAmount C_Unheld C_Ringed r)) (.type "ValueError") = some true := by
  cases r with
  | firm _ => exact q_v0
  | amt _ => exact q_v1
  | held _ => exact q_v2
  | ring _ => exact q_v3
 have hs : kitOne K (.ref (clsOf C_NoFirm C_BadAmount C_Unheld C_Ringed r)) (.ref C_Singular) = some false := by
  cases r with
  | firm _ => exact q_s0
  | amt _ => exact q_s1
  | held _ => exact q_s2
  | ring _ => exact q_s3
 have ho : kitOne K (.ref (clsOf C_NoFirm C_BadAmount C_Unheld C_Ringed r)) (.ref C_NoSister) = some false := by
  cases r with
  | firm _ => exact q_o0
  | amt _ => exact q_o1
  | held _ => exact q_o2
  | ring _ => exact q_o3
 have h0 : kitOne K (.ref (clsOf C_NoFirm C_BadAmount C_Unheld C_Ringed r)) (.ref C_NoFirm) = some (decide (V.str (wordOf r) = V.str "NoFirm")) := by
  cases r with
  | firm _ => exact q_w00.trans wd_00
  | amt _ => exact q_w10.trans wd_10
  | held _ => exact q_w20.trans wd_20
  | ring _ => exact q_w30.trans wd_30
 have h1 : kitOne K (.ref (clsOf C_NoFirm C_BadAmount C_Unheld C_Ringed r)) (.ref C_BadAmount) = some (decide (V.str (wordOf r) = V.str "BadAmount")) := by
  cases r with
  | firm _ => exact q_w01.trans wd_01
  | amt _ => exact q_w11.trans wd_11
  | held _ => exact q_w21.trans wd_21
  | ring _ => exact q_w31.trans wd_31
 have h2 : kitOne K (.ref (clsOf C_NoFirm C_BadAmount C_Unheld C_Ringed r)) (.ref C_Unheld) = some (decide (V.str (wordOf r) = V.str "Unheld")) := by
  cases r with
  | firm _ => exact q_w02.trans wd_02
  | amt _ => exact q_w12.trans wd_12
  | held _ => exact q_w22.trans wd_22
  | ring _ => exact q_w32.trans wd_32
 have h3 : kitOne K (.ref (clsOf C_NoFirm C_BadAmount C_Unheld C_Ringed r)) (.ref C_Ringed) = some (decide (V.str (wordOf r) = V.str "Ringed")) := by
  cases r with
  | firm _ => exact q_w03.trans wd_03
  | amt _ => exact q_w13.trans wd_13
  | held _ => exact q_w23.trans wd_23
  | ring _ => exact q_w33.trans wd_33
 generalize clsOf C_NoFirm C_BadAmount C_Unheld C_Ringed r = c at hX hb hv hs ho h0 h1 h2 h3 ⊢
 refine ⟨hb, fun x hx => ?_⟩
 refine ⟨_, rfl, _, _, _, _, _, rfl, .exc Qab hX, rfl, hv, true, rfl, iteT ?_⟩
 refine ⟨_, rfl, _, _, _, _, _, rfl, .exc Qab hX, rfl, hs, false, rfl, true, rfl, iteT ?_⟩
 refine ⟨_, rfl, _, _, _, _, _, rfl, .exc Qab hX, rfl, ho, ?_⟩
 refine ⟨false, rfl, ?_⟩
 refine ⟨_, rfl, true, rfl, iteT ?_⟩
 refine ⟨_, rfl, _, _, _, _, _, rfl, .exc Qab hX, rfl, h0, _, rfl, rfl, rfl, ?_⟩
 rw [decide_eq_true rfl]
 refine ⟨_, rfl, true, rfl, iteT ?_⟩
 refine ⟨_, rfl, _, _, _, _, _, rfl, .exc Qab hX, rfl, h1, _, rfl, rfl, rfl, ?_⟩
 rw [decide_eq_true rfl]
 refine ⟨_, rfl, true, rfl, iteT ?_⟩
 refine ⟨_, rfl, _, _, _, _, _, rfl, .exc Qab hX, rfl, h2, _, rfl, rfl, rfl, ?_⟩
 rw [decide_eq_true rfl]
 refine ⟨_, rfl, true, rfl, iteT ?_⟩
 refine ⟨_, rfl, _, _, _, _, _, rfl, .exc Qab hX, rfl, h3, _, rfl, rfl, rfl, ?_⟩
 rw [decide_eq_true rfl]
 exact ⟨_, rfl, q _ (e.trans (Qae hx))⟩
def EqOU (K : Q4) (H : Hp) (x y : V) : Prop := (x = .non ∧ y = .non) ∨ ∃ a b xs ys, x = .ref a ∧ y = .ref b ∧ SqT K H a xs ∧ SqT K H b ys ∧ xs.length = ys.length ∧ ∀ (j : Nat) x y, xs[j]? = some x → ys[j]? = some y → eqT K H x y ∨ eqLi K H x y
theorem Qii {X : Cx} {cm : Bool} {k : Nat} (hr : Room cm k X.A) : OpR X (compareOp .NotEq) (fun x y H Q => EqOU X.K H x y ∧ Q (.bl false) H) := by
 intro pins s σ H x y v u Q I rx ry ⟨h, q⟩
 rcases h with ⟨rfl, rfl⟩ | ⟨a, b, xs, ys, rfl, rfl, ha, hb, hl, he⟩
 ·exact op_neO hr pins s σ H .non .non v u Q I rx ry ⟨.inl ⟨rfl, rfl⟩, q⟩
 ·exact op_neU hr pins s σ H _ _ v u Q I rx ry ⟨a, b, xs, ys, rfl, rfl, ha, hb, hl, he, q⟩
theorem Qmp {X : Cx} {cm : Bool} {k : Nat} (hr : Room cm k X.A) : OpR X (compareOp .Eq) (fun x y H Q => EqOU X.K H x y ∧ Q (.bl true) H) := by
 intro pins s σ H x y v u Q I rx ry ⟨h, q⟩
 rcases h with ⟨rfl, rfl⟩ | ⟨a, b, xs, ys, rfl, rfl, ha, hb, hl, he⟩
 ·exact op_eqO hr pins s σ H .non .non v u Q I rx ry ⟨.inl ⟨rfl, rfl⟩, q⟩
 ·exact op_eqU hr pins s σ H _ _ v u Q I rx ry ⟨a, b, xs, ys, rfl, rfl, ha, hb, hl, he, q⟩
theorem Qht {K : Q4} {H : Hp} {a b : Addr} {s : Str} {v : V} (h1 : H a = some (.tup [.str s, v])) (h2 : H b = some (.tup [.str s, v])) (hv : eqPl v = true) : EqOU K H (.ref a) (.ref b) := by
 refine .inr ⟨a, b, _, _, rfl, rfl, SqT.of h1, SqT.of h2, rfl, fun j x y hx hy => .inl (.inl ?_)⟩
 rcases j with _ | _ | j
 ·cases hx
  cases hy
  exact ⟨rfl, rfl⟩
 ·cases hx
  cases hy
  exact ⟨rfl, hv⟩
 ·cases hx
theorem tl4_eq {K : Q4} {H : Hp} {a b : Addr} {r : Rf} (h1 : Tl4 H a r) (h2 : Tl4 H b r) : EqOU K H (.ref a) (.ref b) := by
 cases r with
 | firm s => exact Qht h1 h2 rfl
 | amt s => exact Qht h1 h2 rfl
 | held s => exact Qht h1 h2 rfl
 | ring zs =>
   obtain ⟨l1, a1, b1⟩ := h1
   obtain ⟨l2, a2, b2⟩ := h2
   refine .inr ⟨a, b, _, _, rfl, rfl, SqT.of a1, SqT.of a2, rfl, fun j x y hx hy => ?_⟩
   rcases j with _ | _ | j
   ·cases hx
    cases hy
    exact .inl (.inl ⟨rfl, rfl⟩)
   ·cases hx
    cases hy
    exact .inr ⟨l1, l2, _, _, rfl, rfl, SqL.of b1, SqL.of b2, EqLs.refl (Qmc _)⟩
   ·cases hx
theorem Ql9 {K : Q4} {H : Hp} {v w : V} {o : Option Rf} (h1 : TV H v o) (h2 : TV H w o) : EqOU K H v w := by
 cases o with
 | none => exact .inl ⟨h1, h2⟩
 | some r =>
   obtain ⟨t, rfl, a⟩ := h1
   obtain ⟨u, rfl, b⟩ := h2
   exact tl4_eq a b
theorem Qk7 {R : List Rw} (hl : R.length ≤ 62) (hs : ∀ z ∈ R, z.2.2.2 ≤ 1000000) : Tx [] R [] := ⟨List.nodup_nil, by decide, hl, hs, List.Pairwise.nil, fun x => by simp⟩
def spNo : Sp := fun vs H Q _ => ∃ (l : Addr) (R : List Rw) (gs es : List Str), vs = [.ref l] ∧ H l = some (.lst (rfw R)) ∧ RX H gs es R ∧ R.length ≤ 62 ∧ (∀ z ∈ R, z.2.2.2 ≤ 1000000) ∧ ∀ H', Same H H' → Q (.bl true) H'
theorem scam0 : FnScope ["_law_rows", "_law_some", "_law_k", "_law_handed"] ["_law_rows"] (defScope sam0) := fsc
theorem okam0 (D : Def K mg "_law_no_firms" sam0 .none) (cao0 : Cal P w K mg base CX0 true 9 "_law_refused" ["_law_which", "_law_firms", "_law_rows"] [] spRef) (cai0 : Cal P w K mg base CX0 true 2 "_law_due" ["_law_firms", "_law_rows"] [] spDu) (cba0 : Cal P w K mg base (CX1 P w) true 7 "last_parts" ["firms", "rows"] [] (spLst C_NoFirm C_BadAmount C_Unheld C_Ringed)) (cax0 : Cal P w K mg base (CX1 P w) true 7 "firm_parts" ["firms", "rows"] [] (spLst C_NoFirm C_BadAmount C_Unheld C_Ringed)) (z_range : mg "range" = none) (z_list : mg "list" = none) : Cal P w K mg base CX0 true 10 "_law_no_firms" ["_law_rows"] [] spNo := by
 obtain ⟨f, fd, F, hm⟩ := D
 obtain ⟨fao0, fdao0, dao0, Gao0, mao0, kao0, bao0, vao0, bao01⟩ := cao0
 obtain ⟨fai0, fdai0, dai0, Gai0, mai0, kai0, bai0, vai0, bai01⟩ := cai0
 obtain ⟨fba0, fdba0, dba0, Gba0, mba0, kba0, bba0, vba0, bba01⟩ := cba0
 obtain ⟨fax0, fdax0, dax0, Gax0, max0, kax0, bax0, vax0, bax01⟩ := cax0
 refine ⟨f, fd, _, F.ok scam0 (fun vs H Q E h => ?_) (fun cdv A outer s H vs Q E hr h => ?_), hm, F.kp, (F.b1), .nil, F.b1⟩
 ·obtain ⟨l, R, gs, es, rfl, hl, hR, hlen, hs, q⟩ := h
  rfl
 obtain ⟨l, R, gs, es, rfl, hl, hR, hlen, hs, q⟩ := h
 have nd := scam0.nd
 refine ⟨_, (Qac (Qbh PassesOwn.never rfl (Qas (Qba (Qaa (pv 0) (Qaa (Qba Qad) Qad)))) (Qar (i := 1) nd rfl (Or.inl rfl)) (Qag (Qbh PassesOwn.never rfl (Qa1 rfl z_range (Qaa Qaf Qad)) (Qar (i := 2) nd rfl (Or.inl rfl)) (Qac (Qaj (i := 3) nd rfl (Or.inl rfl) (Qbt Qbm rfl z_list Qcm (Qaa (pv 1) Qad)))
  (Qag (Qbo (PW.pt (Qkd (Qao (Qii hr) (Qak Gao0 (hr.mono (by decide)) rfl mao0 kao0 bao0 Paired.nil pass0 (Qaa (pv 2) (Qaa (Qba Qad) (Qaa (pv 3) Qad)))) (Qak Gai0 (hr.mono (by decide)) rfl mai0 kai0 bai0 Paired.nil pass0 (Qaa (Qba Qad) (Qaa (pv 1) Qad))) (nomark _)) (Qgr (Qao (Qij hr) (pv 3) (pv 1) (nomark _))))) (Qag (Qaq Qhh)) Qaw))))))
  (Qag (Qaq (Qdz (Qbz (Qil hr) (Qbu Gba0 (hr.mono (by decide)) rfl mba0 kba0 bba0 Paired.nil Qhp (Qaa (Qba Qad) (Qaa (Qba Qad) Qad))) (Qba Qad) (nomark _)) (Qdx (Qbz (Qil hr) (Qbu Gax0 (hr.mono (by decide)) rfl max0 kax0 bax0 Paired.nil Qhp (Qaa (Qba Qad) (Qaa (Qba Qad) Qad))) (Qba Qad) (nomark _))))))), ?_⟩
 have hline : 10 ^ 6 ≤ sizeLine := by decide
 refine ⟨_, rfl, (by show 0 ≤ sizeLine; decide), fun l0 hl0 => ⟨(by show 2 ≤ sizeLine; decide), fun ls hls => ?_⟩⟩
 have f1 := Qae (o := .lst []) hl0
 have f2 := Qae (o := .lst [.ref l, .ref l0]) hls
 have hl2 := f2 _ _ (f1 _ _ hl)
 have hl02 := f2 _ _ (Qab (H := H) (a := l0) (o := .lst []))
 have hls2 : upd (upd H l0 (.lst [])) ls (.lst [.ref l, .ref l0]) ls = some (.lst [.ref l, .ref l0]) := Qab
 have e2 := f1.trans f2
 have hR2 := hR.same e2
 generalize upd (upd H l0 (.lst [])) ls (.lst [.ref l, .ref l0]) = H2 at f2 hl2 hl02 hls2 e2 hR2 ⊢
 refine ⟨ls, rfl, ⟨_, SqL.of hls2⟩, ?_⟩
 refine Qb2 (xs := [.ref l, .ref l0]) (fun i σ H' => ∃ (o1 o2 o3 : Option V), σ = [some (.ref l), o1, o2, o3] ∧ Same H2 H') ⟨_, _, _, rfl, Qa0 _⟩ ?_ ?_ ?_
 ·rintro i σ H3 hi ⟨o1, o2, o3, rfl, e3⟩
  exact SqL.of (e3 _ _ hls2)
 ·rintro i x σ H3 hx ⟨o1, o2, o3, rfl, e3⟩
  obtain ⟨p, Rp, rfl, hp, hRp, lRp, sRp⟩ : ∃ (p : Addr) (Rp : List Rw), x = .ref p ∧ H2 p = some (.lst (rfw Rp)) ∧ RX H2 gs es Rp ∧ Rp.length ≤ 62 ∧ ∀ z ∈ Rp, z.2.2.2 ≤ 1000000 := by
   rcases i with _ | _ | i
   ·cases hx
    exact ⟨l, R, rfl, hl2, hR2, hlen, hs⟩
   ·cases hx
    exact ⟨l0, [], rfl, hl02, (fun z hz => nomatch hz), by decide, fun z hz => nomatch hz⟩
   ·cases hx
  have TX := Qk7 lRp sRp
  refine ⟨_, rfl, by decide, by decide, ?_⟩
  refine Qbk (fun k σ H' => ∃ (o2 o3 : Option V), σ = [some (.ref l), some (.ref p), o2, o3] ∧ Same H2 H') ⟨_, _, rfl, e3⟩ ?_ ?_
  ·rintro k σ H4 hk ⟨o2, o3, rfl, e4⟩
   refine ⟨_, rfl, p, _, rfl, .inl (SqL.of (e4 _ _ hp)), fun hd hhd0 => ?_⟩
   have f5 := Qae (o := .lst (rfw Rp)) hhd0
   have hhd : upd H4 hd (.lst (rfw Rp)) hd = some (.lst (rfw Rp)) := Qab
   have e5 := e4.trans f5
   generalize upd H4 hd (.lst (rfw Rp)) = H5 at f5 hhd e5 ⊢
   refine ⟨_, rfl, (by show 0 ≤ sizeLine; decide), fun m1 hm1 => ?_⟩
   have f6 := Qae (o := .lst []) hm1
   have hm6 : upd H5 m1 (.lst []) m1 = some (.lst (([] : List Str).map V.str)) := Qab
   have e6 := e5.trans f6
   have hhd6 := f6 _ _ hhd
   generalize upd H5 m1 (.lst []) = H6 at f6 hm6 e6 hhd6 ⊢
   refine ⟨_, rfl, 0 + (k : Int), m1, hd, [], Rp, [], gs, es, rfl, hm6, hhd6, hRp.same e6, TX, fun v1 H7 e7 tv1 => ?_⟩
   refine ⟨(by show 0 ≤ sizeLine; decide), fun m2 hm2 => ?_⟩
   have f8 := Qae (o := .lst []) hm2
   have hm8 : upd H7 m2 (.lst []) m2 = some (.lst (([] : List Str).map V.str)) := Qab
   have e8 := (e6.trans e7).trans f8
   have tv8 := tv1.same f8
   have hhd8 := f8 _ _ (e7 _ _ hhd6)
   generalize upd H7 m2 (.lst []) = H8 at f8 hm8 e8 tv8 hhd8 ⊢
   refine ⟨_, rfl, m2, p, [], Rp, [], gs, es, rfl, hm8, e8 _ _ hp, hRp.same e8, TX, fun v2 H9 e9 tv2 => ?_⟩
   refine ⟨Ql9 (tv8.same e9) tv2, _, rfl, iteF ?_⟩
   have e29 := e8.trans e9
   exact ⟨_, rfl, _, rfl, hd, p, _, _, rfl, rfl, SqL.of (e9 _ _ hhd8), SqL.of (e29 _ _ hp), EqLs.refl (Qlf _), _, rfl, iteF ⟨_, _, rfl, e29⟩⟩
  rintro σ H4 ⟨o2, o3, rfl, e4⟩
  exact ⟨_, _, _, rfl, e4⟩
 rintro σ H3 ⟨o1, o2, o3, rfl, e3⟩
 have TX : Tx [] [] [] := Qk7 (by decide) (fun z hz => nomatch hz)
 have rn : rfs [] [] [] = none := rfl
 refine ⟨(by show 0 ≤ sizeLine; decide), fun a1 ha1 => ⟨(by show 0 ≤ sizeLine; decide), fun a2 ha2 => ?_⟩⟩
 have g1 := Qae (o := .lst []) ha1
 have g2 := Qae (o := .lst []) ha2
 refine ⟨True.intro, a1, a2, [], [], [], gs, es, rfl, g2 _ _ Qab, Qab, (fun z hz => nomatch hz), TX, (fun r hr => by rw [rn] at hr; cases hr), fun hn T t W H5 e5 ht hW => ⟨(by show 0 ≤ sizeLine; decide), fun a3 ha3 => ?_⟩⟩
 have hW0 := hW rfl rfl
 subst hW0
 have g3 := Qae (o := .lst []) ha3
 have e06 := (e2.trans e3).trans ((g1.trans g2).trans (e5.trans g3))
 refine ⟨t, a3, _, _, rfl, rfl, SqL.of (g3 _ _ ht), SqL.of Qab, ⟨rfl, fun j x y h => nomatch h⟩, true, rfl, iteT ?_⟩
 generalize upd H5 a3 (.lst []) = H6 at g3 e06 ⊢
 refine ⟨(by show 0 ≤ sizeLine; decide), fun b1 hb1 => ⟨(by show 0 ≤ sizeLine; decide), fun b2 hb2 => ?_⟩⟩
 have k1 := Qae (o := .lst []) hb1
 have k2 := Qae (o := .lst []) hb2
 refine ⟨True.intro, b1, b2, [], [], [], gs, es, rfl, k2 _ _ Qab, Qab, (fun z hz => nomatch hz), TX, (fun r hr => by rw [rn] at hr; cases hr), fun hn T t W H7 e7 ht hW => ⟨(by show 0 ≤ sizeLine; decide), fun b3 hb3 => ?_⟩⟩
 have hW0 := hW rfl rfl
 subst hW0
 have k3 := Qae (o := .lst []) hb3
 exact ⟨t, b3, _, _, rfl, rfl, SqL.of (k3 _ _ ht), SqL.of Qab, ⟨rfl, fun j x y h => nomatch h⟩, q _ (e06.trans ((k1.trans k2).trans (e7.trans k3)))⟩
theorem join3 {α β γ : Type} {G : Prop} (F P : α → β → γ → Prop) (hm : (∀ x y z, F x y z → P x y z) → G) (hr : ∀ x y z, F x y z → P x y z) : G := hm hr
def FX9 : List Str := ["nobody", "noone", "none", "other", "third", "fourth", "fifth", "sixth", "seventh"]
theorem fx_nd : FX9.Nodup := by decide+kernel
theorem Qnb {A : List Str} (h : A.length ≤ 8) : ∃ nb r, FX9.filter (fun x => !decide (x ∈ A)) = nb :: r ∧ nb ∉ A := by
 cases e : FX9.filter (fun x => !decide (x ∈ A)) with
 | nil =>
   have hs : ∀ x ∈ FX9, x ∈ A := fun x hx => by
    have := List.filter_eq_nil_iff.mp e x hx
    simpa using this
   have := Qbx FX9 A fx_nd hs
   have l9 : FX9.length = 9 := rfl
   omega
 | cons nb r =>
   have hm : nb ∈ FX9.filter (fun x => !decide (x ∈ A)) := by rw [e]; exact .head _
   have := (List.mem_filter.mp hm).2
   exact ⟨nb, r, rfl, by simpa using this⟩
theorem Qjf {fs : List Str} {R : List Rw} (h : Rk fs R) (h1 : ∀ z ∈ R, z.2.2.1 ∈ fs) (h2 : ∀ z ∈ R, 1 ≤ z.2.2.2) : Rg fs R [] ∧ rfs fs R [] = none := by
 have led : ∀ f ∈ fs, Led fs R f := by
  obtain ⟨r, hr⟩ := h
  have key : ∀ n, ∀ f ∈ fs, r f < n → Led fs R f := by
   intro n
   induction n with
   | zero => exact fun f _ h => absurd h (Nat.not_lt_zero _)
   | succ n ih =>
     intro f hf hn
     obtain ⟨z, hz, q1, q2⟩ := hr f hf
     rw [← q1]
     by_cases c : z.2.1 ∈ fs
     ·rcases q2 with q2 | q2
      ·exact absurd c q2
      ·exact .fm hz (ih _ c (by omega))
     ·exact .st hz c
  exact fun f hf => key _ f hf (Nat.lt_succ_self _)
 refine ⟨⟨List.Pairwise.nil, fun x => ⟨(fun w => nomatch w), fun w => absurd (led x w.1) w.2⟩⟩, ?_⟩
 have a1 : R.find? (b1 fs) = none := Qch fun z hz => decide_eq_false fun w => w (h1 z hz)
 have a2 : R.find? b2 = none := Qch fun z hz => decide_eq_false fun w => by have := h2 z hz; omega
 have a3 : fs.find? (b3 R) = none := Qch fun f hf => decide_eq_false fun w => w (by
  obtain ⟨r, hr⟩ := h
  obtain ⟨z, hz, q1, _⟩ := hr f hf
  exact List.mem_map.mpr ⟨z, hz, q1⟩)
 simp only [rfs, a1, a2, a3]
 rfl
theorem Qj5 {H : Hp} {t : Addr} {r : Rf} (h : Tl4 H t r) : ∃ u, H t = some (.tup [.str (wordOf r), u]) := by
 cases r with
 | firm s => exact ⟨_, h⟩
 | amt s => exact ⟨_, h⟩
 | held s => exact ⟨_, h⟩
 | ring zs =>
   obtain ⟨l, a, _⟩ := h
   exact ⟨_, a⟩
theorem scbb0 : FnScope ["_law_script", "_law_people_here", "_law_firms", "_law_strangers", "_law_fixed", "_law_nobody", "_law_rows", "_law_cell", "_law_due_here", "_law_handed", "_law_k", "_law_told"] ["_law_script"] (defScope sbb0) := fsc
theorem okbb0 {f : Addr} {fd : FuncData} (F : FunD K "law" "law" sbb0 f fd .none) (can0 : Cal P w K mg base CX0 true 3 "_law_people" ["_law_script"] [] (spPeople K)) (cam0 : Cal P w K mg base CX0 true 10 "_law_no_firms" ["_law_rows"] [] spNo) (caj0 : Cal P w K mg base CX0 true 3 "_law_good" ["_law_script", "_law_firms", "_law_strangers"] [] (spGood K)) (cae0 : Cal P w K mg base CX0 true 4 "_law_any" ["_law_script", "_law_firms", "_law_strangers"] [] (spAny K)) (cah0 : Cal P w K mg base CX0 true 1 "_law_cell_at" ["_law_script", "_law_k"] [] (spCell K)) (car0 : Cal P w K mg base CX0 true 3 "_law_spoilt" ["_law_rows", "_law_firms", "_law_strangers", "_law_nobody", "_law_cell"] [] spSpl) (cai0 : Cal P w K mg base CX0 true 2 "_law_due" ["_law_firms", "_law_rows"] [] spDu) (cao0 : Cal P w K mg base CX0 true 9 "_law_refused" ["_law_which", "_law_firms", "_law_rows"] [] spRef) (cag0 : Cal P w K mg base CX0 true 9 "_law_by_base" ["_law_which", "_law_firms", "_law_rows", "_law_word"] [] spBB) (cat0 : Cal P w K mg base (CX1 P w) true 5 "checked" ["firms", "rows"] [] (spChkE C_NoFirm C_BadAmount C_Unheld C_Ringed)) (z_list : mg "list" = none) (z_range : mg "range" = none) : FnOk P w K mg base CX0 true 11 f fd ["_law_script"] (spLaw K) := by
 obtain ⟨fan0, fdan0, dan0, Gan0, man0, kan0, ban0, van0, ban01⟩ := can0
 obtain ⟨fam0, fdam0, dam0, Gam0, mam0, kam0, bam0, vam0, bam01⟩ := cam0
 obtain ⟨faj0, fdaj0, daj0, Gaj0, maj0, kaj0, baj0, vaj0, baj01⟩ := caj0
 obtain ⟨fae0, fdae0, dae0, Gae0, mae0, kae0, bae0, vae0, bae01⟩ := cae0
 obtain ⟨fah0, fdah0, dah0, Gah0, mah0, kah0, bah0, vah0, bah01⟩ := cah0
 obtain ⟨far0, fdar0, dar0, Gar0, mar0, kar0, bar0, var0, bar01⟩ := car0
 obtain ⟨fai0, fdai0, dai0, Gai0, mai0, kai0, bai0, vai0, bai01⟩ := cai0
 obtain ⟨fao0, fdao0, dao0, Gao0, mao0, kao0, bao0, vao0, bao01⟩ := cao0
 obtain ⟨fag0, fdag0, dag0, Gag0, mag0, kag0, bag0, vag0, bag01⟩ := cag0
 obtain ⟨fat0, fdat0, dat0, Gat0, mat0, kat0, bat0, vat0, bat01⟩ := cat0
 refine F.ok scbb0 (fun vs H Q E h => ?_) (fun cdv A outer s H vs Q E hr h => ?_)
 ·obtain ⟨a, ns, rfl, hS, hlen, hb, q⟩ := h
  rfl
 obtain ⟨a, ns, rfl, hS, hlen, hb, q⟩ := h
 have nd := scbb0.nd
 refine ⟨_, (Qac (Qaj (i := 1) nd rfl (Or.inl rfl) (Qak Gan0 (hr.mono (by decide)) rfl man0 kan0 ban0 Paired.nil pass0 (Qaa (pv 0) Qad)))
  (Qac (Qaj (i := 2) nd rfl (Or.inr rfl) (Qax Qav (pv 1) Qaf (fun _ _ => rfl)))
  (Qac (Qaj (i := 3) nd rfl (Or.inr rfl) (Qax Qav (pv 1) Qaf (fun _ _ => rfl)))
  (Qac (Qbo (Qlh (Qfb (Qak Gam0 (hr.mono (by decide)) rfl mam0 kam0 bam0 Paired.nil pass0 (Qaa (Qak Gaj0 (hr.mono (by decide)) rfl maj0 kaj0 baj0 Paired.nil pass0 (Qaa (pv 0) (Qaa (pv 2) (Qaa (pv 3) Qad)))) Qad)))) (Qag (Qaq Qhh)) Qaw)
  (Qac (Qaj (i := 4) nd rfl (Or.inl rfl) (Qba (Qaa Qbd (Qaa Qbd (Qaa Qbd (Qaa Qbd (Qaa Qbd (Qaa Qbd (Qaa Qbd (Qaa Qbd (Qaa Qbd Qad)))))))))))
  (Qac (Qaj (i := 5) nd rfl (Or.inl rfl) (Qax Qav (Qcz [2, 3] rfl (LcOk.free ["_law_strangers", "_law_firms"] rfl rfl (List.forall_mem_cons.mpr ⟨rfl, (List.forall_mem_cons.mpr ⟨rfl, (fun _ h => nomatch h)⟩)⟩) (by decide+kernel) rfl (by decide+kernel) rfl (by decide+kernel) (show (["_law_name", "_law_firms", "_law_strangers"] : List Str).Nodup from by decide+kernel) (List.forall_mem_cons.mpr ⟨⟨_, rfl, rfl, rfl, by decide+kernel⟩, (List.forall_mem_cons.mpr ⟨⟨_, rfl, rfl, rfl, by decide+kernel⟩, (fun _ h => nomatch h)⟩)⟩)) (Qas (pv 4)) (fun C s2 H2 fp xe => (Qao Qbv (pv 0) (Qal Qim (pv 1) (pv 2)) (by with_unfolding_all rfl))) (fun C s2 H2 fp xe => (pv 0))) Qaf (fun _ _ => rfl)))
  (Qac (Qaj (i := 6) nd rfl (Or.inl rfl) (Qak Gae0 (hr.mono (by decide)) rfl mae0 kae0 bae0 Paired.nil pass0 (Qaa (pv 0) (Qaa (pv 2) (Qaa (pv 3) Qad)))))
  (Qac (Qaj (i := 7) nd rfl (Or.inl rfl) (Qak Gah0 (hr.mono (by decide)) rfl mah0 kah0 bah0 Paired.nil pass0 (Qaa (pv 0) (Qaa Qaf Qad))))
  (Qac (Qbo (Qao Qb4 (Qal Qau (pv 7) Qaf) Qaf (nomark _)) (Qag (Qaj (i := 6) nd rfl (Or.inl rfl) (Qak Gar0 (hr.mono (by decide)) rfl mar0 kar0 bar0 Paired.nil pass0 (Qaa (pv 6) (Qaa (pv 2) (Qaa (pv 3) (Qaa (pv 5) (Qaa (Qal Qbw (pv 7) Qaf) Qad)))))))) Qaw)
  (Qac (Qaj (i := 8) nd rfl (Or.inl rfl) (Qak Gai0 (hr.mono (by decide)) rfl mai0 kai0 bai0 Paired.nil pass0 (Qaa (pv 2) (Qaa (pv 6) Qad))))
  (Qac (Qaj (i := 9) nd rfl (Or.inl rfl) (Qbt Qbm rfl z_list Qcm (Qaa (pv 6) Qad)))
  (Qac (Qbh PassesOwn.never rfl (Qa1 rfl z_range (Qaa Qaf Qad)) (Qar (i := 10) nd rfl (Or.inl rfl)) (Qac (Qaj (i := 11) nd rfl (Or.inl rfl) (Qak Gao0 (hr.mono (by decide)) rfl mao0 kao0 bao0 Paired.nil pass0 (Qaa (pv 10) (Qaa (pv 2) (Qaa (pv 9) Qad)))))
  (Qag (Qbo (PW.pt (Qkd (Qao (Qii hr) (pv 11) (pv 8) (nomark _)) (Qgr (Qao (Qij hr) (pv 9) (pv 6) (nomark _))))) (Qag (Qaq Qhh)) Qaw))))
  (Qac (Qbo (Qao Qf2 (pv 8) Qdy (nomark _)) (Qag (Qbo (Qlh (Qfb (Qak Gag0 (hr.mono (by decide)) rfl mag0 kag0 bag0 Paired.nil pass0 (Qaa (Qal Qau (Qal Qbw (pv 7) Qaf) Qaf) (Qaa (pv 2) (Qaa (pv 9) (Qaa (Qax Qav (pv 8) Qaf (fun _ _ => rfl)) Qad))))))) (Qag (Qaq Qhh)) Qaw)) Qaw)
  (Qac (Qbo (Qao Qf2 (Qbu Gat0 (hr.mono (by decide)) rfl mat0 kat0 bat0 Paired.nil Qhp (Qaa (Qbt Qbm rfl z_list Qcm (Qaa (pv 2) Qad)) (Qaa (Qak Gaj0 (hr.mono (by decide)) rfl maj0 kaj0 baj0 Paired.nil pass0 (Qaa (pv 0) (Qaa (pv 2) (Qaa (pv 3) Qad)))) Qad))) Qdy (nomark _)) (Qag (Qaq Qhh)) Qaw)
  (Qag (Qaq (Qbz (Qmp hr) (Qak Gao0 (hr.mono (by decide)) rfl mao0 kao0 bao0 Paired.nil pass0 (Qaa (Qal Qau (Qal Qbw (pv 7) Qaf) Qaf) (Qaa (pv 2) (Qaa (pv 9) Qad)))) (pv 8) (nomark _)))))))))))))))))), ?_⟩
 have hline : 10 ^ 6 ≤ sizeLine := by decide
 refine ⟨_, rfl, a, ns, rfl, hS, fun pp fl sl fs ss H1 e1 hpp P => ?_⟩
 have lf := P.lf
 have lf8 := P.lf8
 have ls := P.ls
 have ls8 := P.ls8
 have l8 := P.l8
 have lfm : (fs.map V.str).length = fs.length := List.length_map ..
 have lsm : (ss.map V.str).length = ss.length := List.length_map ..
 have lfs : (fs ++ ss).length = fs.length + ss.length := List.length_append
 have hfn := (List.nodup_append.mp P.nd).1
 have hT := SqT.of (K := K) hpp
 refine ⟨_, rfl, .inr (.inl ⟨pp, _, 0, _, rfl, rfl, hT, rfl, ?_⟩)⟩
 refine ⟨_, rfl, .inr (.inl ⟨pp, _, 1, _, rfl, rfl, hT, rfl, ?_⟩)⟩
 refine ⟨_, rfl, _, rfl, _, rfl, a, fl, sl, ns, fs, ss, rfl, e1.seq hS, hlen, hb, P, fun g0 R0 H2 e2 _ hg0 hR0 hRk0 hRl0 => ?_⟩
 refine ⟨g0, R0, fs, fs ++ ss, rfl, hg0, hR0.x, by omega, (fun z hz => (hR0 z hz).2.2.2.2), fun H3 e3 => ⟨true, rfl, iteF ?_⟩⟩
 have e13 := e2.trans e3
 have P3 := P.same e13
 refine ⟨(by show 9 ≤ sizeLine; decide), fun fx hfx => ?_⟩
 have k1 : Same H3 (upd H3 fx (.lst (FX9.map V.str))) := Qae hfx
 have hfx1 : upd H3 fx (.lst (FX9.map V.str)) fx = some (.lst (FX9.map V.str)) := Qab
 obtain ⟨HA, hHA⟩ : ∃ HA, upd H3 fx (.lst (FX9.map V.str)) = HA := ⟨_, rfl⟩
 have hHA2 : upd H3 fx (.lst [.str "nobody", .str "noone", .str "none", .str "other", .str "third", .str "fourth", .str "fifth", .str "sixth", .str "seventh"]) = HA := hHA
 rw [hHA2]
 rw [hHA] at k1 hfx1
 refine ⟨_, rfl, fx, rfl, ⟨_, SqL.of hfx1⟩, ?_⟩
 have lx9 : (FX9.map V.str).length = 9 := rfl
 refine Qbe (xs := FX9.map V.str) (fun j ys H' => ys = ((FX9.take j).filter (fun x => !decide (x ∈ fs ++ ss))).map V.str ∧ Same HA H') ⟨rfl, fun _ _ h => h⟩ (by omega) ?_ ?_ ?_
 ·rintro j ys H5 hj ⟨rfl, e5⟩
  refine ⟨SqL.of (e5 _ _ hfx1), ?_⟩
  rw [List.length_map]
  have h1 := List.length_filter_le (fun x => !decide (x ∈ fs ++ ss)) (FX9.take j)
  rw [List.length_take] at h1
  omega
 ·rintro j x ys H5 hx ⟨rfl, e5⟩
  obtain ⟨h, hh, rfl⟩ := Qbq hx
  have e15 := k1.trans e5
  refine ⟨_, rfl, _, rfl, _, rfl, fl, sl, _, _, rfl, rfl, e15 _ _ P3.f, e15 _ _ P3.s, (by omega), fun c hc => ?_⟩
  have eb : fs.map V.str ++ ss.map V.str = (fs ++ ss).map V.str := by rw [List.map_append]
  rw [eb]
  have s1 := Qae (o := .lst ((fs ++ ss).map V.str)) hc
  refine ⟨c, _, rfl, .inl (SqL.of Qab), rfl, Qbf _, _, rfl, ?_⟩
  rw [Qby]
  refine ndec2 (fun h2 => ?_) (fun h2 => ?_)
  ·refine ⟨_, rfl, ?_, e5.trans s1⟩
   rw [Qat hh, List.filter_append, List.filter_cons_of_pos (by simpa using h2), List.map_append]
   rfl
  ·refine ⟨?_, e5.trans s1⟩
   rw [Qat hh, List.filter_append, List.filter_cons_of_neg (by rw [decide_eq_true h2]; decide)]
   simp
 rintro ys H5 ⟨rfl, e5⟩ nl hnl
 rw [lx9, show FX9.take 9 = FX9 from rfl]
 obtain ⟨nb, rest, hnb, hnot⟩ := Qnb (A := fs ++ ss) (by omega)
 rw [hnb]
 have s6 := Qae (o := .lst ((nb :: rest).map V.str)) hnl
 refine .inl ⟨nl, _, 0, _, rfl, rfl, SqL.of Qab, (show atI ((nb :: rest).map V.str) ((0 : Nat) : Int) = some (.str nb) from Qce rfl), ?_⟩
 generalize upd H5 nl (.lst ((nb :: rest).map V.str)) = H6 at s6 ⊢
 have e36 := (k1.trans e5).trans s6
 have e16 := e13.trans e36
 have P6 := P.same e16
 refine ⟨_, rfl, _, rfl, _, rfl, a, fl, sl, ns, fs, ss, rfl, (e1.trans e16).seq hS, hlen, hb, P6, fun hd R H7 e7 hd0 hhd hR hRl => ?_⟩
 have e17 := e16.trans e7
 refine ⟨_, rfl, a, ns, 3, rfl, (e1.trans e17).seq hS, ?_⟩
 apply join3 (fun (p : Addr) (R' : List Rw) (H8 : Hp) => Same H1 H8 ∧ H8 p = some (.lst (rfw R')) ∧ RX H8 fs (fs ++ ss) R' ∧ R'.length ≤ 62 ∧ ∀ z ∈ R', z.2.2.2 ≤ 1000000)
 ·intro kk
  refine ⟨_, rfl, _, _, rfl, rfl, (by show (0 : Int) < 2; decide), rfl, _, rfl, ?_⟩
  refine dec2 (fun h => ?_) (fun h => ?_)
  ·refine ⟨_, rfl, _, rfl, _, rfl, _, rfl, _, rfl, _, _, rfl, rfl, ⟨by decide, by decide⟩, hd, fl, sl, nb, _, R, fs, ss, fs, fs ++ ss, rfl, hhd, hR.x, by omega, (fun z hz => (hR z hz).2.2.2.2), P.same e17, fun p R' H8 e8 hp0 hp hRx hl hs => ?_⟩
   exact kk p R' H8 ⟨e17.trans e8, hp, hRx, by omega, hs⟩
  ·exact kk hd R H7 ⟨e17, hhd, hR.x, by omega, fun z hz => (hR z hz).2.2.2.2⟩
 rintro p R' H8 ⟨e18, hp, hRx, hl, hs⟩
 obtain ⟨zs, hg⟩ := rg_ex fs R'
 have TX : Tx fs R' zs := ⟨hfn, lf8, by omega, hs, hg⟩
 refine ⟨_, rfl, _, rfl, fl, p, fs, R', zs, fs, fs ++ ss, rfl, e18 _ _ P.f, hp, hRx, TX, fun v H9 e9 tv => ?_⟩
 refine ⟨_, rfl, p, _, rfl, .inl (SqL.of (e9 _ _ hp)), fun hn hhn0 => ?_⟩
 have f10 := Qae (o := .lst (rfw R')) hhn0
 have hhn : upd H9 hn (.lst (rfw R')) hn = some (.lst (rfw R')) := Qab
 have e910 := e9.trans f10
 have tv10 := tv.same f10
 generalize upd H9 hn (.lst (rfw R')) = H10 at f10 hhn e910 tv10 ⊢
 have e10 := e18.trans e910
 have hp10 := e910 _ _ hp
 have hR10 := hRx.same e910
 have hf10 := e10 _ _ P.f
 refine ⟨_, rfl, by decide, by decide, ?_⟩
 refine Qbk (fun k σ H' => ∃ (o10 o11 : Option V), σ = [some (.ref a), some (.ref pp), some (.ref fl), some (.ref sl), some (.ref fx), some (.str nb), some (.ref p), some (.int (ns.getD 3 0)), some v, some (.ref hn), o10, o11] ∧ Same H10 H') ⟨_, _, rfl, Qa0 _⟩ ?_ ?_
 ·rintro k σ H11 hk ⟨o10, o11, rfl, e11⟩
  refine ⟨_, rfl, _, rfl, _, rfl, 0 + (k : Int), fl, hn, fs, R', zs, fs, fs ++ ss, rfl, e11 _ _ hf10, e11 _ _ hhn, hR10.same e11, TX, fun v1 H12 e12 tv1 => ?_⟩
  have e112 := e11.trans e12
  refine ⟨_, rfl, _, rfl, Ql9 tv1 (tv10.same e112), _, rfl, iteF ?_⟩
  exact ⟨_, rfl, _, rfl, hn, p, _, _, rfl, rfl, SqL.of (e112 _ _ hhn), SqL.of (e112 _ _ hp10), EqLs.refl (Qlf _), _, rfl, iteF ⟨_, _, rfl, e112⟩⟩
 rintro σ H11 ⟨o10, o11, rfl, e11⟩
 have e011 := e10.trans e11
 apply join1 (fun (HF : Hp) => Same H10 HF)
 ·intro kk
  cases hrf : rfs fs R' zs with
  | none =>
    have tvn := tv10
    rw [hrf] at tvn
    have ev : v = .non := tvn
    refine ⟨_, rfl, rfl, _, rfl, ndecF ev ?_⟩
    exact kk H11 e11
  | some r =>
    have tvn := tv10.same e11
    rw [hrf] at tvn
    obtain ⟨t, ev, t4⟩ := tvn
    refine ⟨_, rfl, rfl, _, rfl, ?_⟩
    refine ndec2 (fun _ => ?_) (fun w => absurd (ev.symm.trans w) (by intro z; cases z))
    obtain ⟨u, ht4⟩ := Qj5 t4
    have hTt := SqT.of (K := K) ht4
    refine ⟨_, rfl, _, _, rfl, rfl, ⟨by decide, by decide⟩, _, _, rfl, rfl, (by show (0 : Int) < 3; decide), _, rfl, _, rfl, _, rfl, .inr (.inl ⟨t, _, 0, _, ev, rfl, hTt, rfl, _, fl, hn, fs, R', zs, fs, fs ++ ss, r, rfl, e11 _ _ hf10, e11 _ _ hhn, hR10.same e11, TX, hrf, fun H12 e12 => ⟨true, rfl, iteF ?_⟩⟩)⟩
    exact kk H12 (e11.trans e12)
 intro HF eF
 have e0F := e10.trans eF
 refine ⟨_, rfl, fl, _, rfl, .inl (SqL.of (e0F _ _ P.f)), fun c1 hc1 => ?_⟩
 have fc := Qae (o := .lst (fs.map V.str)) hc1
 have hcc : upd HF c1 (.lst (fs.map V.str)) c1 = some (.lst (fs.map V.str)) := Qab
 have eG := eF.trans fc
 generalize upd HF c1 (.lst (fs.map V.str)) = HG at fc hcc eG ⊢
 have e0G := e10.trans eG
 refine ⟨_, rfl, _, rfl, _, rfl, a, fl, sl, ns, fs, ss, rfl, (e1.trans e0G).seq hS, hlen, hb, P.same e0G, fun g1 Rg1 HK eK _ hg1 hRg1 hRkg hRlg => ?_⟩
 obtain ⟨gR, gN⟩ := Qjf hRkg (fun z hz => (hRg1 z hz).2.2.1) (fun z hz => (hRg1 z hz).2.2.2.1)
 refine ⟨True.intro, c1, g1, fs, Rg1, [], fs, fs ++ ss, rfl, eK _ _ hcc, hg1, hRg1.x, ⟨hfn, lf8, by omega, (fun z hz => (hRg1 z hz).2.2.2.2), gR⟩, (fun _ _ HL eL => ⟨rfl, _, rfl, ndecF rfl ?_⟩), fun r2 hr2 => by rw [gN] at hr2; cases hr2⟩
 have eH := eG.trans (eK.trans eL)
 exact ⟨_, rfl, _, _, rfl, rfl, ⟨by decide, by decide⟩, _, _, rfl, rfl, (by show (0 : Int) < 3; decide), _, rfl, _, rfl, _, fl, hn, fs, R', zs, fs, fs ++ ss, rfl, eH _ _ hf10, eH _ _ hhn, hR10.same eH, TX, fun v2 HM eM tv2 => ⟨_, rfl, Ql9 tv2 (tv10.same (eH.trans eM)), q _⟩⟩
end
theorem all_mk {l : PySem.W.OpenLaw} {w : World} {K : Q4} {h : Heap} {mg : Str → Option Value} {fa : Addr} {C_BadAmount C_BooksError C_NoFirm C_NoSister C_Ringed C_Singular C_Unheld : Addr} {fbl0 : Addr} {ocbl0 kVbl0 dcbl0 pmbl0 cdbl0 ctbl0 : Value} {odbl0 anbl0 : Option Addr} {slbl0 : Array Q5} {fas0 : Addr} {ocas0 kVas0 dcas0 pmas0 cdas0 ctas0 : Value} {odas0 anas0 : Option Addr} {slas0 : Array Q5} {fbh0 : Addr} {ocbh0 kVbh0 dcbh0 pmbh0 cdbh0 ctbh0 : Value} {odbh0 anbh0 : Option Addr} {slbh0 : Array Q5} {fbo0 : Addr} {ocbo0 kVbo0 dcbo0 pmbo0 cdbo0 ctbo0 : Value} {odbo0 anbo0 : Option Addr} {slbo0 : Array Q5} {fah0 : Addr} {ocah0 kVah0 dcah0 pmah0 cdah0 ctah0 : Value} {odah0 anah0 : Option Addr} {slah0 : Array Q5} {fak0 : Addr} {ocak0 kVak0 dcak0 pmak0 cdak0 ctak0 : Value} {odak0 anak0 : Option Addr} {slak0 : Array Q5} {fal0 : Addr} {ocal0 kVal0 dcal0 pmal0 cdal0 ctal0 : Value} {odal0 anal0 : Option Addr} {slal0 : Array Q5} {fan0 : Addr} {ocan0 kVan0 dcan0 pman0 cdan0 ctan0 : Value} {odan0 anan0 : Option Addr} {slan0 : Array Q5} {faq0 : Addr} {ocaq0 kVaq0 dcaq0 pmaq0 cdaq0 ctaq0 : Value} {odaq0 anaq0 : Option Addr} {slaq0 : Array Q5} {faj0 : Addr} {ocaj0 kVaj0 dcaj0 pmaj0 cdaj0 ctaj0 : Value} {odaj0 anaj0 : Option Addr} {slaj0 : Array Q5} {fbc0 : Addr} {ocbc0 kVbc0 dcbc0 pmbc0 cdbc0 ctbc0 : Value} {odbc0 anbc0 : Option Addr} {slbc0 : Array Q5} {fbe0 : Addr} {ocbe0 kVbe0 dcbe0 pmbe0 cdbe0 ctbe0 : Value} {odbe0 anbe0 : Option Addr} {slbe0 : Array Q5} {fbk0 : Addr} {ocbk0 kVbk0 dcbk0 pmbk0 cdbk0 ctbk0 : Value} {odbk0 anbk0 : Option Addr} {slbk0 : Array Q5} {faw0 : Addr} {ocaw0 kVaw0 dcaw0 pmaw0 cdaw0 ctaw0 : Value} {odaw0 anaw0 : Option Addr} {slaw0 : Array Q5} {fbf0 : Addr} {ocbf0 kVbf0 dcbf0 pmbf0 cdbf0 ctbf0 : Value} {odbf0 anbf0 : Option Addr} {slbf0 : Array Q5} {fbq0 : Addr} {ocbq0 kVbq0 dcbq0 pmbq0 cdbq0 ctbq0 : Value} {odbq0 anbq0 : Option Addr} {slbq0 : Array Q5} {fbd0 : Addr} {ocbd0 kVbd0 dcbd0 pmbd0 cdbd0 ctbd0 : Value} {odbd0 anbd0 : Option Addr} {slbd0 : Array Q5} {fav0 : Addr} {ocav0 kVav0 dcav0 pmav0 cdav0 ctav0 : Value} {odav0 anav0 : Option Addr} {slav0 : Array Q5} {fay0 : Addr} {ocay0 kVay0 dcay0 pmay0 cday0 ctay0 : Value} {oday0 anay0 : Option Addr} {slay0 : Array Q5} {fbp0 : Addr} {ocbp0 kVbp0 dcbp0 pmbp0 cdbp0 ctbp0 : Value} {odbp0 anbp0 : Option Addr} {slbp0 : Array Q5} {fbi0 : Addr} {ocbi0 kVbi0 dcbi0 pmbi0 cdbi0 ctbi0 : Value} {odbi0 anbi0 : Option Addr} {slbi0 : Array Q5} {fbj0 : Addr} {ocbj0 kVbj0 dcbj0 pmbj0 cdbj0 ctbj0 : Value} {odbj0 anbj0 : Option Addr} {slbj0 : Array Q5} {fbm0 : Addr} {ocbm0 kVbm0 dcbm0 pmbm0 cdbm0 ctbm0 : Value} {odbm0 anbm0 : Option Addr} {slbm0 : Array Q5} {fab0 : Addr} {ocab0 kVab0 dcab0 pmab0 cdab0 ctab0 : Value} {odab0 anab0 : Option Addr} {slab0 : Array Q5} {faa0 : Addr} {ocaa0 kVaa0 dcaa0 pmaa0 cdaa0 ctaa0 : Value} {odaa0 anaa0 : Option Addr} {slaa0 : Array Q5} {fad0 : Addr} {ocad0 kVad0 dcad0 pmad0 cdad0 ctad0 : Value} {odad0 anad0 : Option Addr} {slad0 : Array Q5} {fac0 : Addr} {ocac0 kVac0 dcac0 pmac0 cdac0 ctac0 : Value} {odac0 anac0 : Option Addr} {slac0 : Array Q5} {fat0 : Addr} {ocat0 kVat0 dcat0 pmat0 cdat0 ctat0 : Value} {odat0 anat0 : Option Addr} {slat0 : Array Q5} {fau0 : Addr} {ocau0 kVau0 dcau0 pmau0 cdau0 ctau0 : Value} {odau0 anau0 : Option Addr} {slau0 : Array Q5} {faz0 : Addr} {ocaz0 kVaz0 dcaz0 pmaz0 cdaz0 ctaz0 : Value} {odaz0 anaz0 : Option Addr} {slaz0 : Array Q5} {Taz0 : Addr} {odTaz0 : Option Addr} {nTaz0 : Nat} {slTaz0 : Array Q5} {tkTaz0 : Tok} {fbn0 : Addr} {ocbn0 kVbn0 dcbn0 pmbn0 cdbn0 ctbn0 : Value} {odbn0 anbn0 : Option Addr} {slbn0 : Array Q5} {fba0 : Addr} {ocba0 kVba0 dcba0 pmba0 cdba0 ctba0 : Value} {odba0 anba0 : Option Addr} {slba0 : Array Q5} {fbg0 : Addr} {ocbg0 kVbg0 dcbg0 pmbg0 cdbg0 ctbg0 : Value} {odbg0 anbg0 : Option Addr} {slbg0 : Array Q5} {fax0 : Addr} {ocax0 kVax0 dcax0 pmax0 cdax0 ctax0 : Value} {odax0 anax0 : Option Addr} {slax0 : Array Q5} {fae0 : Addr} {ocae0 kVae0 dcae0 pmae0 cdae0 ctae0 : Value} {odae0 anae0 : Option Addr} {slae0 : Array Q5} {far0 : Addr} {ocar0 kVar0 dcar0 pmar0 cdar0 ctar0 : Value} {odar0 anar0 : Option Addr} {slar0 : Array Q5} {fap0 : Addr} {ocap0 kVap0 dcap0 pmap0 cdap0 ctap0 : Value} {odap0 anap0 : Option Addr} {slap0 : Array Q5} {fai0 : Addr} {ocai0 kVai0 dcai0 pmai0 cdai0 ctai0 : Value} {odai0 anai0 : Option Addr} {slai0 : Array Q5} {faf0 : Addr} {ocaf0 kVaf0 dcaf0 pmaf0 cdaf0 ctaf0 : Value} {odaf0 anaf0 : Option Addr} {slaf0 : Array Q5} {fao0 : Addr} {ocao0 kVao0 dcao0 pmao0 cdao0 ctao0 : Value} {odao0 anao0 : Option Addr} {slao0 : Array Q5} {fag0 : Addr} {ocag0 kVag0 dcag0 pmag0 cdag0 ctag0 : Value} {odag0 anag0 : Option Addr} {slag0 : Array Q5} {fam0 : Addr} {ocam0 kVam0 dcam0 pmam0 cdam0 ctam0 : Value} {odam0 anam0 : Option Addr} {slam0 : Array Q5} {fbb0 : Addr} {ocbb0 kVbb0 dcbb0 pmbb0 cdbb0 ctbb0 : Value} {odbb0 anbb0 : Option Addr} {slbb0 : Array Q5} (X : K.In h) (G : h.Ns mainGlobals mg) (hfa : mg "law" = some (.ref fa))
 (a_BadAmount : nsIn K mainGlobals "BadAmount" = some (some (.ref C_BadAmount))) (a_BooksError : nsIn K mainGlobals "BooksError" = some (some (.ref C_BooksError))) (a_NoFirm : nsIn K mainGlobals "NoFirm" = some (some (.ref C_NoFirm))) (a_NoSister : nsIn K mainGlobals "NoSister" = some (some (.ref C_NoSister))) (a_Ringed : nsIn K mainGlobals "Ringed" = some (some (.ref C_Ringed))) (a_Singular : nsIn K mainGlobals "Singular" = some (some (.ref C_Singular))) (a_Unheld : nsIn K mainGlobals "Unheld" = some (some (.ref C_Unheld))) (xs_NoFirm : xclsIn K C_NoFirm = true) (xga_NoFirm : findIn K (.ref C_NoFirm) "__getattribute__" = some (some (.builtin "BaseException.__getattribute__"))) (xgh_NoFirm : findIn K (.ref C_NoFirm) "__getattr__" = some (none)) (xsa_NoFirm : findIn K (.ref C_NoFirm) "__setattr__" = some (some (.builtin "object.__setattr__"))) (xcl_NoFirm : findIn K (.ref C_NoFirm) "__class__" = some (some (.builtin "object.__class__"))) (xs_BadAmount : xclsIn K C_BadAmount = true) (xga_BadAmount : findIn K (.ref C_BadAmount) "__getattribute__" = some (some (.builtin "BaseException.__getattribute__"))) (xgh_BadAmount : findIn K (.ref C_BadAmount) "__getattr__" = some (none)) (xsa_BadAmount : findIn K (.ref C_BadAmount) "__setattr__" = some (some (.builtin "object.__setattr__"))) (xcl_BadAmount : findIn K (.ref C_BadAmount) "__class__" = some (some (.builtin "object.__class__"))) (xs_Unheld : xclsIn K C_Unheld = true) (xga_Unheld : findIn K (.ref C_Unheld) "__getattribute__" = some (some (.builtin "BaseException.__getattribute__"))) (xgh_Unheld : findIn K (.ref C_Unheld) "__getattr__" = some (none)) (xsa_Unheld : findIn K (.ref C_Unheld) "__setattr__" = some (some (.builtin "object.__setattr__"))) (xcl_Unheld : findIn K (.ref C_Unheld) "__class__" = some (some (.builtin "object.__class__"))) (xs_Ringed : xclsIn K C_Ringed = true) (xga_Ringed : findIn K (.ref C_Ringed) "__getattribute__" = some (some (.builtin "BaseException.__getattribute__"))) (xgh_Ringed : findIn K (.ref C_Ringed) "__getattr__" = some (none)) (xsa_Ringed : findIn K (.ref C_Ringed) "__setattr__" = some (some (.builtin "object.__setattr__"))) (xcl_Ringed : findIn K (.ref C_Ringed) "__class__" = some (some (.builtin "object.__class__"))) (nz_sum : nsIn K mainGlobals "sum" = some none) (nz_sorted : nsIn K mainGlobals "sorted" = some none) (nz_set : nsIn K mainGlobals "set" = some none) (nz_len : nsIn K mainGlobals "len" = some none) (nz_range : nsIn K mainGlobals "range" = some none) (nz_int : nsIn K mainGlobals "int" = some none) (nz_min : nsIn K mainGlobals "min" = some none) (nz_any : nsIn K mainGlobals "any" = some none) (nz_dict : nsIn K mainGlobals "dict" = some none) (nz_abs : nsIn K mainGlobals "abs" = some none) (nz_enumerate : nsIn K mainGlobals "enumerate" = some none) (nz_list : nsIn K mainGlobals "list" = some none) (nz_zip : nsIn K mainGlobals "zip" = some none) (nz_isinstance : nsIn K mainGlobals "isinstance" = some none) (nz_ValueError : nsIn K mainGlobals "ValueError" = some none) (q_00 : exmOne K (.ref C_NoFirm) (.ref C_NoFirm) = some true) (q_10 : exmOne K (.ref C_BadAmount) (.ref C_NoFirm) = some false) (q_11 : exmOne K (.ref C_BadAmount) (.ref C_BadAmount) = some true) (q_20 : exmOne K (.ref C_Unheld) (.ref C_NoFirm) = some false) (q_21 : exmOne K (.ref C_Unheld) (.ref C_BadAmount) = some false) (q_22 : exmOne K (.ref C_Unheld) (.ref C_Unheld) = some true) (q_30 : exmOne K (.ref C_Ringed) (.ref C_NoFirm) = some false) (q_31 : exmOne K (.ref C_Ringed) (.ref C_BadAmount) = some false) (q_32 : exmOne K (.ref C_Ringed) (.ref C_Unheld) = some false) (q_33 : exmOne K (.ref C_Ringed) (.ref C_Ringed) = some true) (q_b0 : exmOne K (.ref C_NoFirm) (.ref C_BooksError) = some true) (q_v0 : kitOne K (.ref C_NoFirm) (.type "ValueError") = some true) (q_s0 : kitOne K (.ref C_NoFirm) (.ref C_Singular) = some false) (q_o0 : kitOne K (.ref C_NoFirm) (.ref C_NoSister) = some false) (q_w00 : kitOne K (.ref C_NoFirm) (.ref C_NoFirm) = some true) (q_w01 : kitOne K (.ref C_NoFirm) (.ref C_BadAmount) = some false) (q_w02 : kitOne K (.ref C_NoFirm) (.ref C_Unheld) = some false) (q_w03 : kitOne K (.ref C_NoFirm) (.ref C_Ringed) = some false) (q_b1 : exmOne K (.ref C_BadAmount) (.ref C_BooksError) = some true) (q_v1 : kitOne K (.ref C_BadAmount) (.type "ValueError") = some true) (q_s1 : kitOne K (.ref C_BadAmount) (.ref C_Singular) = some false) (q_o1 : kitOne K (.ref C_BadAmount) (.ref C_NoSister) = some false) (q_w10 : kitOne K (.ref C_BadAmount) (.ref C_NoFirm) = some false) (q_w11 : kitOne K (.ref C_BadAmount) (.ref C_BadAmount) = some true) (q_w12 : kitOne K (.ref C_BadAmount) (.ref C_Unheld) = some false) (q_w13 : kitOne K (.ref C_BadAmount) (.ref C_Ringed) = some false) (q_b2 : exmOne K (.ref C_Unheld) (.ref C_BooksError) = some true) (q_v2 : kitOne K (.ref C_Unheld) (.type "ValueError") = some true) (q_s2 : kitOne K (.ref C_Unheld) (.ref C_Singular) = some false) (q_o2 : kitOne K (.ref C_Unheld) (.ref C_NoSister) = some false) (q_w20 : kitOne K (.ref C_Unheld) (.ref C_NoFirm) = some false) (q_w21 : kitOne K (.ref C_Unheld) (.ref C_BadAmount) = some false) (q_w22 : kitOne K (.ref C_Unheld) (.ref C_Unheld) = some true) (q_w23 : kitOne K (.ref C_Unheld) (.ref C_Ringed) = some false) (q_b3 : exmOne K (.ref C_Ringed) (.ref C_BooksError) = some true) (q_v3 : kitOne K (.ref C_Ringed) (.type "ValueError") = some true) (q_s3 : kitOne K (.ref C_Ringed) (.ref C_Singular) = some false) (q_o3 : kitOne K (.ref C_Ringed) (.ref C_NoSister) = some false) (q_w30 : kitOne K (.ref C_Ringed) (.ref C_NoFirm) = some false) (q_w31 : kitOne K (.ref C_Ringed) (.ref C_BadAmount) = some false) (q_w32 : kitOne K (.ref C_Ringed) (.ref C_Unheld) = some false) (q_w33 : kitOne K (.ref C_Ringed) (.ref C_Ringed) = some true) (n_name : findIn K (.ref C_NoFirm) "name" = some none) (n_amount : findIn K (.ref C_BadAmount) "amount" = some none) (n_firm : findIn K (.ref C_Unheld) "firm" = some none) (n_ring : findIn K (.ref C_Ringed) "ring" = some none) (abl0 : nsIn K mainGlobals "shares_of" = some (some (.ref fbl0))) (lbl0 : K.lookup fbl0 = some ⟨ocbl0, odbl0, .func (fnOf "shares_of" "shares_of" (defArgs sbl0) (defBody sbl0) (defScope sbl0) .none kVbl0 dcbl0 pmbl0 anbl0 cdbl0 ctbl0), slbl0⟩) (cbl0 : codeIn K cdbl0 "shares_of" = true) (kbl0 : keepIn K (.ref fbl0) = true) (aas0 : nsIn K mainGlobals "all_shares" = some (some (.ref fas0))) (las0 : K.lookup fas0 = some ⟨ocas0, odas0, .func (fnOf "all_shares" "all_shares" (defArgs sas0) (defBody sas0) (defScope sas0) .none kVas0 dcas0 pmas0 anas0 cdas0 ctas0), slas0⟩) (cas0 : codeIn K cdas0 "all_shares" = true) (kas0 : keepIn K (.ref fas0) = true) (abh0 : nsIn K mainGlobals "owners_of" = some (some (.ref fbh0))) (lbh0 : K.lookup fbh0 = some ⟨ocbh0, odbh0, .func (fnOf "owners_of" "owners_of" (defArgs sbh0) (defBody sbh0) (defScope sbh0) .none kVbh0 dcbh0 pmbh0 anbh0 cdbh0 ctbh0), slbh0⟩) (cbh0 : codeIn K cdbh0 "owners_of" = true) (kbh0 : keepIn K (.ref fbh0) = true) (abo0 : nsIn K mainGlobals "strangers_of" = some (some (.ref fbo0))) (lbo0 : K.lookup fbo0 = some ⟨ocbo0, odbo0, .func (fnOf "strangers_of" "strangers_of" (defArgs sbo0) (defBody sbo0) (defScope sbo0) .none kVbo0 dcbo0 pmbo0 anbo0 cdbo0 ctbo0), slbo0⟩) (cbo0 : codeIn K cdbo0 "strangers_of" = true) (kbo0 : keepIn K (.ref fbo0) = true) (aah0 : nsIn K mainGlobals "_law_cell_at" = some (some (.ref fah0))) (lah0 : K.lookup fah0 = some ⟨ocah0, odah0, .func (fnOf "_law_cell_at" "_law_cell_at" (defArgs sah0) (defBody sah0) (defScope sah0) .none kVah0 dcah0 pmah0 anah0 cdah0 ctah0), slah0⟩) (cah0 : codeIn K cdah0 "_law_cell_at" = true) (kah0 : keepIn K (.ref fah0) = true) (aak0 : nsIn K mainGlobals "_law_mix" = some (some (.ref fak0))) (lak0 : K.lookup fak0 = some ⟨ocak0, odak0, .func (fnOf "_law_mix" "_law_mix" (defArgs sak0) (defBody sak0) (defScope sak0) .none kVak0 dcak0 pmak0 anak0 cdak0 ctak0), slak0⟩) (cak0 : codeIn K cdak0 "_law_mix" = true) (kak0 : keepIn K (.ref fak0) = true) (aal0 : nsIn K mainGlobals "_law_names" = some (some (.ref fal0))) (lal0 : K.lookup fal0 = some ⟨ocal0, odal0, .func (fnOf "_law_names" "_law_names" (defArgs sal0) (defBody sal0) (defScope sal0) .none kVal0 dcal0 pmal0 anal0 cdal0 ctal0), slal0⟩) (cal0 : codeIn K cdal0 "_law_names" = true) (kal0 : keepIn K (.ref fal0) = true) (aan0 : nsIn K mainGlobals "_law_people" = some (some (.ref fan0))) (lan0 : K.lookup fan0 = some ⟨ocan0, odan0, .func (fnOf "_law_people" "_law_people" (defArgs san0) (defBody san0) (defScope san0) .none kVan0 dcan0 pman0 anan0 cdan0 ctan0), slan0⟩) (can0 : codeIn K cdan0 "_law_people" = true) (kan0 : keepIn K (.ref fan0) = true) (aaq0 : nsIn K mainGlobals "_law_shares" = some (some (.ref faq0))) (laq0 : K.lookup faq0 = some ⟨ocaq0, odaq0, .func (fnOf "_law_shares" "_law_shares" (defArgs saq0) (defBody saq0) (defScope saq0) .none kVaq0 dcaq0 pmaq0 anaq0 cdaq0 ctaq0), slaq0⟩) (caq0 : codeIn K cdaq0 "_law_shares" = true) (kaq0 : keepIn K (.ref faq0) = true) (aaj0 : nsIn K mainGlobals "_law_good" = some (some (.ref faj0))) (laj0 : K.lookup faj0 = some ⟨ocaj0, odaj0, .func (fnOf "_law_good" "_law_good" (defArgs saj0) (defBody saj0) (defScope saj0) .none kVaj0 dcaj0 pmaj0 anaj0 cdaj0 ctaj0), slaj0⟩) (caj0 : codeIn K cdaj0 "_law_good" = true) (kaj0 : keepIn K (.ref faj0) = true) (abc0 : nsIn K mainGlobals "leads_on" = some (some (.ref fbc0))) (lbc0 : K.lookup fbc0 = some ⟨ocbc0, odbc0, .func (fnOf "leads_on" "leads_on" (defArgs sbc0) (defBody sbc0) (defScope sbc0) .none kVbc0 dcbc0 pmbc0 anbc0 cdbc0 ctbc0), slbc0⟩) (cbc0 : codeIn K cdbc0 "leads_on" = true) (kbc0 : keepIn K (.ref fbc0) = true) (abe0 : nsIn K mainGlobals "levels_of" = some (some (.ref fbe0))) (lbe0 : K.lookup fbe0 = some ⟨ocbe0, odbe0, .func (fnOf "levels_of" "levels_of" (defArgs sbe0) (defBody sbe0) (defScope sbe0) .none kVbe0 dcbe0 pmbe0 anbe0 cdbe0 ctbe0), slbe0⟩) (cbe0 : codeIn K cdbe0 "levels_of" = true) (kbe0 : keepIn K (.ref fbe0) = true) (abk0 : nsIn K mainGlobals "ring_of" = some (some (.ref fbk0))) (lbk0 : K.lookup fbk0 = some ⟨ocbk0, odbk0, .func (fnOf "ring_of" "ring_of" (defArgs sbk0) (defBody sbk0) (defScope sbk0) .none kVbk0 dcbk0 pmbk0 anbk0 cdbk0 ctbk0), slbk0⟩) (cbk0 : codeIn K cdbk0 "ring_of" = true) (kbk0 : keepIn K (.ref fbk0) = true) (aaw0 : nsIn K mainGlobals "divisor" = some (some (.ref faw0))) (law0 : K.lookup faw0 = some ⟨ocaw0, odaw0, .func (fnOf "divisor" "divisor" (defArgs saw0) (defBody saw0) (defScope saw0) .none kVaw0 dcaw0 pmaw0 anaw0 cdaw0 ctaw0), slaw0⟩) (caw0 : codeIn K cdaw0 "divisor" = true) (kaw0 : keepIn K (.ref faw0) = true) (abf0 : nsIn K mainGlobals "only_at" = some (some (.ref fbf0))) (lbf0 : K.lookup fbf0 = some ⟨ocbf0, odbf0, .func (fnOf "only_at" "only_at" (defArgs sbf0) (defBody sbf0) (defScope sbf0) .none kVbf0 dcbf0 pmbf0 anbf0 cdbf0 ctbf0), slbf0⟩) (cbf0 : codeIn K cdbf0 "only_at" = true) (kbf0 : keepIn K (.ref fbf0) = true) (abq0 : nsIn K mainGlobals "widened" = some (some (.ref fbq0))) (lbq0 : K.lookup fbq0 = some ⟨ocbq0, odbq0, .func (fnOf "widened" "widened" (defArgs sbq0) (defBody sbq0) (defScope sbq0) .none kVbq0 dcbq0 pmbq0 anbq0 cdbq0 ctbq0), slbq0⟩) (cbq0 : codeIn K cdbq0 "widened" = true) (kbq0 : keepIn K (.ref fbq0) = true) (abd0 : nsIn K mainGlobals "lean" = some (some (.ref fbd0))) (lbd0 : K.lookup fbd0 = some ⟨ocbd0, odbd0, .func (fnOf "lean" "lean" (defArgs sbd0) (defBody sbd0) (defScope sbd0) .none kVbd0 dcbd0 pmbd0 anbd0 cdbd0 ctbd0), slbd0⟩) (cbd0 : codeIn K cdbd0 "lean" = true) (kbd0 : keepIn K (.ref fbd0) = true) (aav0 : nsIn K mainGlobals "cleared" = some (some (.ref fav0))) (lav0 : K.lookup fav0 = some ⟨ocav0, odav0, .func (fnOf "cleared" "cleared" (defArgs sav0) (defBody sav0) (defScope sav0) .none kVav0 dcav0 pmav0 anav0 cdav0 ctav0), slav0⟩) (cav0 : codeIn K cdav0 "cleared" = true) (kav0 : keepIn K (.ref fav0) = true) (aay0 : nsIn K mainGlobals "first_with" = some (some (.ref fay0))) (lay0 : K.lookup fay0 = some ⟨ocay0, oday0, .func (fnOf "first_with" "first_with" (defArgs say0) (defBody say0) (defScope say0) .none kVay0 dcay0 pmay0 anay0 cday0 ctay0), slay0⟩) (cay0 : codeIn K cday0 "first_with" = true) (kay0 : keepIn K (.ref fay0) = true) (abp0 : nsIn K mainGlobals "turned" = some (some (.ref fbp0))) (lbp0 : K.lookup fbp0 = some ⟨ocbp0, odbp0, .func (fnOf "turned" "turned" (defArgs sbp0) (defBody sbp0) (defScope sbp0) .none kVbp0 dcbp0 pmbp0 anbp0 cdbp0 ctbp0), slbp0⟩) (cbp0 : codeIn K cdbp0 "turned" = true) (kbp0 : keepIn K (.ref fbp0) = true) (abi0 : nsIn K mainGlobals "pair_of" = some (some (.ref fbi0))) (lbi0 : K.lookup fbi0 = some ⟨ocbi0, odbi0, .func (fnOf "pair_of" "pair_of" (defArgs sbi0) (defBody sbi0) (defScope sbi0) .none kVbi0 dcbi0 pmbi0 anbi0 cdbi0 ctbi0), slbi0⟩) (cbi0 : codeIn K cdbi0 "pair_of" = true) (kbi0 : keepIn K (.ref fbi0) = true) (abj0 : nsIn K mainGlobals "paper_of" = some (some (.ref fbj0))) (lbj0 : K.lookup fbj0 = some ⟨ocbj0, odbj0, .func (fnOf "paper_of" "paper_of" (defArgs sbj0) (defBody sbj0) (defScope sbj0) .none kVbj0 dcbj0 pmbj0 anbj0 cdbj0 ctbj0), slbj0⟩) (cbj0 : codeIn K cdbj0 "paper_of" = true) (kbj0 : keepIn K (.ref fbj0) = true) (abm0 : nsIn K mainGlobals "square_of" = some (some (.ref fbm0))) (lbm0 : K.lookup fbm0 = some ⟨ocbm0, odbm0, .func (fnOf "square_of" "square_of" (defArgs sbm0) (defBody sbm0) (defScope sbm0) .none kVbm0 dcbm0 pmbm0 anbm0 cdbm0 ctbm0), slbm0⟩) (cbm0 : codeIn K cdbm0 "square_of" = true) (kbm0 : keepIn K (.ref fbm0) = true) (atab0 : findIn K (.ref C_NoFirm) "__init__" = some (some (.ref fab0))) (fnab0 : PySem.W.isFn K (.ref fab0) = true) (lab0 : K.lookup fab0 = some ⟨ocab0, odab0, .func (fnOf "__init__" "NoFirm.__init__" (defArgs sab0) (defBody sab0) (defScope sab0) .none kVab0 dcab0 pmab0 anab0 cdab0 ctab0), slab0⟩) (cab0 : codeIn K cdab0 "NoFirm.__init__" = true) (kab0 : keepIn K (.ref fab0) = true) (ataa0 : findIn K (.ref C_BadAmount) "__init__" = some (some (.ref faa0))) (fnaa0 : PySem.W.isFn K (.ref faa0) = true) (laa0 : K.lookup faa0 = some ⟨ocaa0, odaa0, .func (fnOf "__init__" "BadAmount.__init__" (defArgs saa0) (defBody saa0) (defScope saa0) .none kVaa0 dcaa0 pmaa0 anaa0 cdaa0 ctaa0), slaa0⟩) (caa0 : codeIn K cdaa0 "BadAmount.__init__" = true) (kaa0 : keepIn K (.ref faa0) = true) (atad0 : findIn K (.ref C_Unheld) "__init__" = some (some (.ref fad0))) (fnad0 : PySem.W.isFn K (.ref fad0) = true) (lad0 : K.lookup fad0 = some ⟨ocad0, odad0, .func (fnOf "__init__" "Unheld.__init__" (defArgs sad0) (defBody sad0) (defScope sad0) .none kVad0 dcad0 pmad0 anad0 cdad0 ctad0), slad0⟩) (cad0 : codeIn K cdad0 "Unheld.__init__" = true) (kad0 : keepIn K (.ref fad0) = true) (atac0 : findIn K (.ref C_Ringed) "__init__" = some (some (.ref fac0))) (fnac0 : PySem.W.isFn K (.ref fac0) = true) (lac0 : K.lookup fac0 = some ⟨ocac0, odac0, .func (fnOf "__init__" "Ringed.__init__" (defArgs sac0) (defBody sac0) (defScope sac0) .none kVac0 dcac0 pmac0 anac0 cdac0 ctac0), slac0⟩) (cac0 : codeIn K cdac0 "Ringed.__init__" = true) (kac0 : keepIn K (.ref fac0) = true) (aat0 : nsIn K mainGlobals "checked" = some (some (.ref fat0))) (lat0 : K.lookup fat0 = some ⟨ocat0, odat0, .func (fnOf "checked" "checked" (defArgs sat0) (defBody sat0) (defScope sat0) .none kVat0 dcat0 pmat0 anat0 cdat0 ctat0), slat0⟩) (cat0 : codeIn K cdat0 "checked" = true) (kat0 : keepIn K (.ref fat0) = true) (aau0 : nsIn K mainGlobals "checked_paper" = some (some (.ref fau0))) (lau0 : K.lookup fau0 = some ⟨ocau0, odau0, .func (fnOf "checked_paper" "checked_paper" (defArgs sau0) (defBody sau0) (defScope sau0) .none kVau0 dcau0 pmau0 anau0 cdau0 ctau0), slau0⟩) (cau0 : codeIn K cdau0 "checked_paper" = true) (kau0 : keepIn K (.ref fau0) = true) (aaz0 : nsIn K mainGlobals "fraction" = some (some (.ref faz0))) (laz0 : K.lookup faz0 = some ⟨ocaz0, odaz0, .func (fnOf "fraction" "fraction" (defArgs saz0) (defBody saz0) (defScope saz0) (.ref Taz0) kVaz0 dcaz0 pmaz0 anaz0 cdaz0 ctaz0), slaz0⟩) (caz0 : codeIn K cdaz0 "fraction" = true) (kaz0 : keepIn K (.ref faz0) = true) (lTaz0 : K.lookup Taz0 = some ⟨.type "tuple", odTaz0, .seq #[.int 1 tkTaz0] nTaz0, slTaz0⟩) (abn0 : nsIn K mainGlobals "stranger_part" = some (some (.ref fbn0))) (lbn0 : K.lookup fbn0 = some ⟨ocbn0, odbn0, .func (fnOf "stranger_part" "stranger_part" (defArgs sbn0) (defBody sbn0) (defScope sbn0) .none kVbn0 dcbn0 pmbn0 anbn0 cdbn0 ctbn0), slbn0⟩) (cbn0 : codeIn K cdbn0 "stranger_part" = true) (kbn0 : keepIn K (.ref fbn0) = true) (aba0 : nsIn K mainGlobals "last_parts" = some (some (.ref fba0))) (lba0 : K.lookup fba0 = some ⟨ocba0, odba0, .func (fnOf "last_parts" "last_parts" (defArgs sba0) (defBody sba0) (defScope sba0) .none kVba0 dcba0 pmba0 anba0 cdba0 ctba0), slba0⟩) (cba0 : codeIn K cdba0 "last_parts" = true) (kba0 : keepIn K (.ref fba0) = true) (abg0 : nsIn K mainGlobals "over" = some (some (.ref fbg0))) (lbg0 : K.lookup fbg0 = some ⟨ocbg0, odbg0, .func (fnOf "over" "over" (defArgs sbg0) (defBody sbg0) (defScope sbg0) .none kVbg0 dcbg0 pmbg0 anbg0 cdbg0 ctbg0), slbg0⟩) (cbg0 : codeIn K cdbg0 "over" = true) (kbg0 : keepIn K (.ref fbg0) = true) (aax0 : nsIn K mainGlobals "firm_parts" = some (some (.ref fax0))) (lax0 : K.lookup fax0 = some ⟨ocax0, odax0, .func (fnOf "firm_parts" "firm_parts" (defArgs sax0) (defBody sax0) (defScope sax0) .none kVax0 dcax0 pmax0 anax0 cdax0 ctax0), slax0⟩) (cax0 : codeIn K cdax0 "firm_parts" = true) (kax0 : keepIn K (.ref fax0) = true) (aae0 : nsIn K mainGlobals "_law_any" = some (some (.ref fae0))) (lae0 : K.lookup fae0 = some ⟨ocae0, odae0, .func (fnOf "_law_any" "_law_any" (defArgs sae0) (defBody sae0) (defScope sae0) .none kVae0 dcae0 pmae0 anae0 cdae0 ctae0), slae0⟩) (cae0 : codeIn K cdae0 "_law_any" = true) (kae0 : keepIn K (.ref fae0) = true) (aar0 : nsIn K mainGlobals "_law_spoilt" = some (some (.ref far0))) (lar0 : K.lookup far0 = some ⟨ocar0, odar0, .func (fnOf "_law_spoilt" "_law_spoilt" (defArgs sar0) (defBody sar0) (defScope sar0) .none kVar0 dcar0 pmar0 anar0 cdar0 ctar0), slar0⟩) (car0 : codeIn K cdar0 "_law_spoilt" = true) (kar0 : keepIn K (.ref far0) = true) (aap0 : nsIn K mainGlobals "_law_ring" = some (some (.ref fap0))) (lap0 : K.lookup fap0 = some ⟨ocap0, odap0, .func (fnOf "_law_ring" "_law_ring" (defArgs sap0) (defBody sap0) (defScope sap0) .none kVap0 dcap0 pmap0 anap0 cdap0 ctap0), slap0⟩) (cap0 : codeIn K cdap0 "_law_ring" = true) (kap0 : keepIn K (.ref fap0) = true) (aai0 : nsIn K mainGlobals "_law_due" = some (some (.ref fai0))) (lai0 : K.lookup fai0 = some ⟨ocai0, odai0, .func (fnOf "_law_due" "_law_due" (defArgs sai0) (defBody sai0) (defScope sai0) .none kVai0 dcai0 pmai0 anai0 cdai0 ctai0), slai0⟩) (cai0 : codeIn K cdai0 "_law_due" = true) (kai0 : keepIn K (.ref fai0) = true) (aaf0 : nsIn K mainGlobals "_law_asked" = some (some (.ref faf0))) (laf0 : K.lookup faf0 = some ⟨ocaf0, odaf0, .func (fnOf "_law_asked" "_law_asked" (defArgs saf0) (defBody saf0) (defScope saf0) .none kVaf0 dcaf0 pmaf0 anaf0 cdaf0 ctaf0), slaf0⟩) (caf0 : codeIn K cdaf0 "_law_asked" = true) (kaf0 : keepIn K (.ref faf0) = true) (aao0 : nsIn K mainGlobals "_law_refused" = some (some (.ref fao0))) (lao0 : K.lookup fao0 = some ⟨ocao0, odao0, .func (fnOf "_law_refused" "_law_refused" (defArgs sao0) (defBody sao0) (defScope sao0) .none kVao0 dcao0 pmao0 anao0 cdao0 ctao0), slao0⟩) (cao0 : codeIn K cdao0 "_law_refused" = true) (kao0 : keepIn K (.ref fao0) = true) (aag0 : nsIn K mainGlobals "_law_by_base" = some (some (.ref fag0))) (lag0 : K.lookup fag0 = some ⟨ocag0, odag0, .func (fnOf "_law_by_base" "_law_by_base" (defArgs sag0) (defBody sag0) (defScope sag0) .none kVag0 dcag0 pmag0 anag0 cdag0 ctag0), slag0⟩) (cag0 : codeIn K cdag0 "_law_by_base" = true) (kag0 : keepIn K (.ref fag0) = true) (aam0 : nsIn K mainGlobals "_law_no_firms" = some (some (.ref fam0))) (lam0 : K.lookup fam0 = some ⟨ocam0, odam0, .func (fnOf "_law_no_firms" "_law_no_firms" (defArgs sam0) (defBody sam0) (defScope sam0) .none kVam0 dcam0 pmam0 anam0 cdam0 ctam0), slam0⟩) (cam0 : codeIn K cdam0 "_law_no_firms" = true) (kam0 : keepIn K (.ref fam0) = true) (abb0 : nsIn K mainGlobals "law" = some (some (.ref fbb0))) (lbb0 : K.lookup fbb0 = some ⟨ocbb0, odbb0, .func (fnOf "law" "law" (defArgs sbb0) (defBody sbb0) (defScope sbb0) .none kVbb0 dcbb0 pmbb0 anbb0 cdbb0 ctbb0), slbb0⟩) (cbb0 : codeIn K cdbb0 "law" = true) (kbb0 : keepIn K (.ref fbb0) = true) :
 ∃ fd : FuncData, (∀ (s : Shared) (v : Value), BindsTo s fd ⟨[v], []⟩ [("_law_script", v)]) ∧ ∀ base : Heap, K.In base → base.Ns mainGlobals mg → FnOk l.prog w K mg base CX0 true 11 fa fd ["_law_script"] (spLaw K) := by
 have e := hfa.symm.trans (mg_of X G abb0)
 cases e
 have m_BadAmount := mg_of X G a_BadAmount
 have m_BooksError := mg_of X G a_BooksError
 have m_NoFirm := mg_of X G a_NoFirm
 have m_NoSister := mg_of X G a_NoSister
 have m_Ringed := mg_of X G a_Ringed
 have m_Singular := mg_of X G a_Singular
 have m_Unheld := mg_of X G a_Unheld
 have X_NoFirm : XCls K C_NoFirm := ⟨xs_NoFirm, xga_NoFirm, xgh_NoFirm, xsa_NoFirm, xcl_NoFirm⟩
 have X_BadAmount : XCls K C_BadAmount := ⟨xs_BadAmount, xga_BadAmount, xgh_BadAmount, xsa_BadAmount, xcl_BadAmount⟩
 have X_Unheld : XCls K C_Unheld := ⟨xs_Unheld, xga_Unheld, xgh_Unheld, xsa_Unheld, xcl_Unheld⟩
 have X_Ringed : XCls K C_Ringed := ⟨xs_Ringed, xga_Ringed, xgh_Ringed, xsa_Ringed, xcl_Ringed⟩
 have z_sum := mg_none_of X G nz_sum
 have z_sorted := mg_none_of X G nz_sorted
 have z_set := mg_none_of X G nz_set
 have z_len := mg_none_of X G nz_len
 have z_range := mg_none_of X G nz_range
 have z_int := mg_none_of X G nz_int
 have z_min := mg_none_of X G nz_min
 have z_any := mg_none_of X G nz_any
 have z_dict := mg_none_of X G nz_dict
 have z_abs := mg_none_of X G nz_abs
 have z_enumerate := mg_none_of X G nz_enumerate
 have z_list := mg_none_of X G nz_list
 have z_zip := mg_none_of X G nz_zip
 have z_isinstance := mg_none_of X G nz_isinstance
 have z_ValueError := mg_none_of X G nz_ValueError
 refine ⟨fnOf "law" "law" (defArgs sbb0) (defBody sbb0) (defScope sbb0) .none kVbb0 dcbb0 pmbb0 anbb0 cdbb0 ctbb0, fun s v => .of_eq rfl, fun base _ _ => ?_⟩
 have qbl0 := okbl0 (P := l.prog) (w := w) (base := base) ⟨fbl0, _, Qap (st := sbl0) lbl0 cbl0 kbl0, mg_of X G abl0⟩ z_sum
 have qas0 := okas0 (P := l.prog) (w := w) (base := base) ⟨fas0, _, Qap (st := sas0) las0 cas0 kas0, mg_of X G aas0⟩ z_sum
 have qbh0 := okbh0 (P := l.prog) (w := w) (base := base) ⟨fbh0, _, Qap (st := sbh0) lbh0 cbh0 kbh0, mg_of X G abh0⟩ z_sorted z_set
 have qbo0 := okbo0 (P := l.prog) (w := w) (base := base) ⟨fbo0, _, Qap (st := sbo0) lbo0 cbo0 kbo0, mg_of X G abo0⟩ z_sorted z_set
 have qah0 := okah0 (P := l.prog) (w := w) (base := base) (cm := true) ⟨fah0, _, Qap (st := sah0) lah0 cah0 kah0, mg_of X G aah0⟩ z_len
 have qak0 := okak0 (P := l.prog) (w := w) (base := base) (cm := true) ⟨fak0, _, Qap (st := sak0) lak0 cak0 kak0, mg_of X G aak0⟩
 have qal0 := okal0 (P := l.prog) (w := w) (base := base) ⟨fal0, _, Qap (st := sal0) lal0 cal0 kal0, mg_of X G aal0⟩ z_range z_int
 have qan0 := okan0 (P := l.prog) (w := w) (base := base) ⟨fan0, _, Qap (st := san0) lan0 can0 kan0, mg_of X G aan0⟩ qah0 qal0 qak0 z_min
 have qaq0 := okaq0 (P := l.prog) (w := w) (base := base) (cm := true) ⟨faq0, _, Qap (st := saq0) laq0 caq0 kaq0, mg_of X G aaq0⟩
 have qaj0 := okaj0 (P := l.prog) (w := w) (base := base) ⟨faj0, _, Qap (st := saj0) laj0 caj0 kaj0, mg_of X G aaj0⟩ qah0 qak0 qaq0 z_len z_range
 have qbc0 := okbc0 (P := l.prog) (w := w) (base := base) ⟨fbc0, _, Qap (st := sbc0) lbc0 cbc0 kbc0, mg_of X G abc0⟩ qbh0 z_any
 have qbe0 := okbe0 (P := l.prog) (w := w) (base := base) ⟨fbe0, _, Qap (st := sbe0) lbe0 cbe0 kbe0, mg_of X G abe0⟩ qbc0 z_dict
 have qbk0 := okbk0 (P := l.prog) (w := w) (base := base) ⟨fbk0, _, Qap (st := sbk0) lbk0 cbk0 kbk0, mg_of X G abk0⟩ qbe0 z_sorted
 have qaw0 := okaw0 (P := l.prog) (w := w) (base := base) (cm := true) ⟨faw0, _, Qap (st := saw0) law0 caw0 kaw0, mg_of X G aaw0⟩ z_abs
 have qbf0 := okbf0 (P := l.prog) (w := w) (base := base) ⟨fbf0, _, Qap (st := sbf0) lbf0 cbf0 kbf0, mg_of X G abf0⟩ z_range
 have qbq0 := okbq0 (P := l.prog) (w := w) (base := base) ⟨fbq0, _, Qap (st := sbq0) lbq0 cbq0 kbq0, mg_of X G abq0⟩ qbf0 z_len z_enumerate z_list
 have qbd0 := okbd0 (P := l.prog) (w := w) (base := base) ⟨fbd0, _, Qap (st := sbd0) lbd0 cbd0 kbd0, mg_of X G abd0⟩ qaw0
 have qav0 := okav0 (P := l.prog) (w := w) (base := base) ⟨fav0, _, Qap (st := sav0) lav0 cav0 kav0, mg_of X G aav0⟩ qbd0 z_zip
 have qay0 := okay0 (P := l.prog) (w := w) (base := base) ⟨fay0, _, Qap (st := say0) lay0 cay0 kay0, mg_of X G aay0⟩ z_enumerate
 have qbp0 := okbp0 (P := l.prog) (w := w) (base := base) ⟨fbp0, _, Qap (st := sbp0) lbp0 cbp0 kbp0, mg_of X G abp0⟩ qbq0 qay0 qav0 z_range z_len
 have qbi0 := okbi0 (P := l.prog) (w := w) (base := base) ⟨fbi0, _, Qap (st := sbi0) lbi0 cbi0 kbi0, mg_of X G abi0⟩
 have qbj0 := okbj0 (P := l.prog) (w := w) (base := base) ⟨fbj0, _, Qap (st := sbj0) lbj0 cbj0 kbj0, mg_of X G abj0⟩ qbp0 qbi0 z_len z_enumerate
 have qbm0 := okbm0 (P := l.prog) (w := w) (base := base) ⟨fbm0, _, Qap (st := sbm0) lbm0 cbm0 kbm0, mg_of X G abm0⟩ qbl0 qas0 z_enumerate
 have qab0 := okab0 (P := l.prog) (w := w) (mg := mg) (base := base) X_NoFirm n_name ⟨fab0, _, Qap (st := sab0) lab0 cab0 kab0, atab0, fnab0⟩
 have qaa0 := okaa0 (P := l.prog) (w := w) (mg := mg) (base := base) X_BadAmount n_amount ⟨faa0, _, Qap (st := saa0) laa0 caa0 kaa0, ataa0, fnaa0⟩
 have qad0 := okad0 (P := l.prog) (w := w) (mg := mg) (base := base) X_Unheld n_firm ⟨fad0, _, Qap (st := sad0) lad0 cad0 kad0, atad0, fnad0⟩
 have qac0 := okac0 (P := l.prog) (w := w) (mg := mg) (base := base) z_list X_Ringed n_ring ⟨fac0, _, Qap (st := sac0) lac0 cac0 kac0, atac0, fnac0⟩
 have qat0 := okat0 (P := l.prog) (w := w) (base := base) ⟨fat0, _, Qap (st := sat0) lat0 cat0 kat0, mg_of X G aat0⟩ qab0 qaa0 qbh0 qad0 qbk0 qac0 m_NoFirm m_BadAmount m_Unheld m_Ringed X_NoFirm X_BadAmount X_Unheld X_Ringed
 have qau0 := okau0 (P := l.prog) (w := w) (base := base) ⟨fau0, _, Qap (st := sau0) lau0 cau0 kau0, mg_of X G aau0⟩ qat0 qbj0 qbm0
 have qaz0 := okaz0 (P := l.prog) (w := w) (base := base) ⟨faz0, _, Qap (st := saz0) laz0 caz0 kaz0, mg_of X G aaz0⟩ lTaz0 qaw0
 have qbn0 := okbn0 (P := l.prog) (w := w) (base := base) ⟨fbn0, _, Qap (st := sbn0) lbn0 cbn0 kbn0, mg_of X G abn0⟩ qaz0 z_sum z_zip
 have qba0 := okba0 (P := l.prog) (w := w) (base := base) ⟨fba0, _, Qap (st := sba0) lba0 cba0 kba0, mg_of X G aba0⟩ qau0 qbo0 qbl0 qbn0
 have qbg0 := okbg0 (P := l.prog) (w := w) (base := base) ⟨fbg0, _, Qap (st := sbg0) lbg0 cbg0 kbg0, mg_of X G abg0⟩ qaz0
 have qax0 := okax0 (P := l.prog) (w := w) (base := base) ⟨fax0, _, Qap (st := sax0) lax0 cax0 kax0, mg_of X G aax0⟩ qau0 qaz0 qbg0 z_enumerate
 have qae0 := okae0 (P := l.prog) (w := w) (base := base) ⟨fae0, _, Qap (st := sae0) lae0 cae0 kae0, mg_of X G aae0⟩ qaj0 qah0 qak0 z_range z_len
 have qar0 := okar0 (P := l.prog) (w := w) (base := base) ⟨far0, _, Qap (st := sar0) lar0 car0 kar0, mg_of X G aar0⟩ qak0 z_list z_len z_range
 have qap0 := okap0 (P := l.prog) (w := w) (base := base) ⟨fap0, _, Qap (st := sap0) lap0 cap0 kap0, mg_of X G aap0⟩ z_range z_len z_sorted
 have qai0 := okai0 (P := l.prog) (w := w) (base := base) ⟨fai0, _, Qap (st := sai0) lai0 cai0 kai0, mg_of X G aai0⟩ qap0
 have qaf0 := okaf0 (P := l.prog) (w := w) (base := base) ⟨faf0, _, Qap (st := saf0) laf0 caf0 kaf0, mg_of X G aaf0⟩ qat0 qba0 qax0
 have qao0 := okao0 (P := l.prog) (w := w) (base := base) ⟨fao0, _, Qap (st := sao0) lao0 cao0 kao0, mg_of X G aao0⟩ qaf0 z_isinstance z_list m_NoFirm m_BadAmount m_Unheld m_Ringed X_NoFirm X_BadAmount X_Unheld X_Ringed n_name n_amount n_firm n_ring q_00 q_10 q_11 q_20 q_21 q_22 q_30 q_31 q_32 q_33
 have qag0 := okag0 (P := l.prog) (w := w) (base := base) ⟨fag0, _, Qap (st := sag0) lag0 cag0 kag0, mg_of X G aag0⟩ qaf0 z_isinstance z_ValueError m_BooksError m_Singular m_NoSister m_NoFirm m_BadAmount m_Unheld m_Ringed X_NoFirm X_BadAmount X_Unheld X_Ringed q_b0 q_v0 q_s0 q_o0 q_w00 q_w01 q_w02 q_w03 q_b1 q_v1 q_s1 q_o1 q_w10 q_w11 q_w12 q_w13 q_b2 q_v2 q_s2 q_o2 q_w20 q_w21 q_w22 q_w23 q_b3 q_v3 q_s3 q_o3 q_w30 q_w31 q_w32 q_w33
 have qam0 := okam0 (P := l.prog) (w := w) (base := base) ⟨fam0, _, Qap (st := sam0) lam0 cam0 kam0, mg_of X G aam0⟩ qao0 qai0 qba0 qax0 z_range z_list
 exact okbb0 (P := l.prog) (w := w) (base := base) (Qap (st := sbb0) lbb0 cbb0 kbb0) qan0 qam0 qaj0 qae0 qah0 qar0 qai0 qao0 qag0 qat0 z_list z_range
theorem walk {l : PySem.W.OpenLaw} {q : Program} {loose : List Str} {XP : (Str → Option Value) → Heap → Prop} {YP : World → Heap → Prop} {d : DefRec} {K : Params → PySem.W.Frag} (hn : l.most = some 63) (hdf : d.params.defaults = [])
 (hY : ∀ (w : World) (h : Heap), YP w h → (K w.params).In h)
 (F : ∀ (w : World) (mg : Str → Option Value) (fa : Addr) (h : Heap), (K w.params).In h → h.Ns mainGlobals mg → mg d.name = some (.ref fa) →
  ∃ fd : FuncData, (∀ (s : Shared) (u : Value), BindsTo s fd ⟨[u], []⟩ [("_law_script", u)]) ∧ ∀ base : Heap, (K w.params).In base → base.Ns mainGlobals mg → FnOk l.prog w (K w.params) mg base CX0 true 11 fa fd ["_law_script"] (spLaw (K w.params))) :
 PySem.W.WalkO q loose XP YP l.row.toRowW d [] (fun f vs => PySem.call f vs) :=
 L2.Qj0 (n := 63) (k := 11) (x := "_law_script") (CX := fun _ => CX0) (sp := fun w => spLaw (K w.params)) hn (by decide) hdf ⟨fun _ => rfl, by decide, by decide⟩ hY F (fun _ _ a ns hl hb _ hS => ⟨a, ns, rfl, hS, hl, hb, fun _ => rfl⟩) fun _ _ _ _ _ z => z
end K43
open PySem PySem.W PyProof.Rows
set_option maxRecDepth 100000 in
set_option maxHeartbeats 0 in
theorem PySem.Challenge.cw_groupbooks_k43_refused_tables_holds : PySem.Challenge.rw_groupbooks_k43_refused_tables.Holds := by
 refine K43.headTop ?_
 k_fill
 refine K43.walk (l := PySem.Challenge.rw_groupbooks_k43_refused_tables) rfl rfl (fun w h Y => PySem.W.kIn_of Y) ?F
 case F =>
  intro w mg fa h KX G hmg
  refine' K43.all_mk KX G hmg ?a_BadAmount ?a_BooksError ?a_NoFirm ?a_NoSister ?a_Ringed ?a_Singular ?a_Unheld ?xs_NoFirm ?xga_NoFirm ?xgh_NoFirm ?xsa_NoFirm ?xcl_NoFirm ?xs_BadAmount ?xga_BadAmount ?xgh_BadAmount ?xsa_BadAmount ?xcl_BadAmount ?xs_Unheld ?xga_Unheld ?xgh_Unheld ?xsa_Unheld ?xcl_Unheld ?xs_Ringed ?xga_Ringed ?xgh_Ringed ?xsa_Ringed ?xcl_Ringed ?nz_sum ?nz_sorted ?nz_set ?nz_len ?nz_range ?nz_int ?nz_min ?nz_any ?nz_dict ?nz_abs ?nz_enumerate ?nz_list ?nz_zip ?nz_isinstance ?nz_ValueError ?q_00 ?q_10 ?q_11 ?q_20 ?q_21 ?q_22 ?q_30 ?q_31 ?q_32 ?q_33 ?q_b0 ?q_v0 ?q_s0 ?q_o0 ?q_w00 ?q_w01 ?q_w02 ?q_w03 ?q_b1 ?q_v1 ?q_s1 ?q_o1 ?q_w10 ?q_w11 ?q_w12 ?q_w13 ?q_b2 ?q_v2 ?q_s2 ?q_o2 ?q_w20 ?q_w21 ?q_w22 ?q_w23 ?q_b3 ?q_v3 ?q_s3 ?q_o3 ?q_w30 ?q_w31 ?q_w32 ?q_w33 ?n_name ?n_amount ?n_firm ?n_ring ?abl0 ?lbl0 ?cbl0 ?kbl0 ?aas0 ?las0 ?cas0 ?kas0 ?abh0 ?lbh0 ?cbh0 ?kbh0 ?abo0 ?lbo0 ?cbo0 ?kbo0 ?aah0 ?lah0 ?cah0 ?kah0 ?aak0 ?lak0 ?cak0 ?kak0 ?aal0 ?lal0 ?cal0 ?kal0 ?aan0 ?lan0 ?can0 ?kan0 ?aaq0 ?laq0 ?caq0 ?kaq0 ?aaj0 ?laj0 ?caj0 ?kaj0 ?abc0 ?lbc0 ?cbc0 ?kbc0 ?abe0 ?lbe0 ?cbe0 ?kbe0 ?abk0 ?lbk0 ?cbk0 ?kbk0 ?aaw0 ?law0 ?caw0 ?kaw0 ?abf0 ?lbf0 ?cbf0 ?kbf0 ?abq0 ?lbq0 ?cbq0 ?kbq0 ?abd0 ?lbd0 ?cbd0 ?kbd0 ?aav0 ?lav0 ?cav0 ?kav0 ?aay0 ?lay0 ?cay0 ?kay0 ?abp0 ?lbp0 ?cbp0 ?kbp0 ?abi0 ?lbi0 ?cbi0 ?kbi0 ?abj0 ?lbj0 ?cbj0 ?kbj0 ?abm0 ?lbm0 ?cbm0 ?kbm0 ?atab0 ?fnab0 ?lab0 ?cab0 ?kab0 ?ataa0 ?fnaa0 ?laa0 ?caa0 ?kaa0 ?atad0 ?fnad0 ?lad0 ?cad0 ?kad0 ?atac0 ?fnac0 ?lac0 ?cac0 ?kac0 ?aat0 ?lat0 ?cat0 ?kat0 ?aau0 ?lau0 ?cau0 ?kau0 ?aaz0 ?laz0 ?caz0 ?kaz0 ?lTaz0 ?abn0 ?lbn0 ?cbn0 ?kbn0 ?aba0 ?lba0 ?cba0 ?kba0 ?abg0 ?lbg0 ?cbg0 ?kbg0 ?aax0 ?lax0 ?cax0 ?kax0 ?aae0 ?lae0 ?cae0 ?kae0 ?aar0 ?lar0 ?car0 ?kar0 ?aap0 ?lap0 ?cap0 ?kap0 ?aai0 ?lai0 ?cai0 ?kai0 ?aaf0 ?laf0 ?caf0 ?kaf0 ?aao0 ?lao0 ?cao0 ?kao0 ?aag0 ?lag0 ?cag0 ?kag0 ?aam0 ?lam0 ?cam0 ?kam0 ?abb0 ?lbb0 ?cbb0 ?kbb0
  (case a_BadAmount => k_is)
  (case a_BooksError => k_is)
  (case a_NoFirm => k_is)
  (case a_NoSister => k_is)
  (case a_Ringed => k_is)
  (case a_Singular => k_is)
  (case a_Unheld => k_is)
  (case xga_NoFirm => k_is)
  (case xgh_NoFirm => k_is)
  (case xsa_NoFirm => k_is)
  (case xcl_NoFirm => k_is)
  (case xga_BadAmount => k_is)
  (case xgh_BadAmount => k_is)
  (case xsa_BadAmount => k_is)
  (case xcl_BadAmount => k_is)
  (case xga_Unheld => k_is)
  (case xgh_Unheld => k_is)
  (case xsa_Unheld => k_is)
  (case xcl_Unheld => k_is)
  (case xga_Ringed => k_is)
  (case xgh_Ringed => k_is)
  (case xsa_Ringed => k_is)
  (case xcl_Ringed => k_is)
  (case nz_sum => k_is)
  (case nz_sorted => k_is)
  (case nz_set => k_is)
  (case nz_len => k_is)
  (case nz_range => k_is)
  (case nz_int => k_is)
  (case nz_min => k_is)
  (case nz_any => k_is)
  (case nz_dict => k_is)
  (case nz_abs => k_is)
  (case nz_enumerate => k_is)
  (case nz_list => k_is)
  (case nz_zip => k_is)
  (case nz_isinstance => k_is)
  (case nz_ValueError => k_is)
  (case n_name => k_is)
  (case n_amount => k_is)
  (case n_firm => k_is)
  (case n_ring => k_is)
  (case abl0 => k_is)
  (case lbl0 => k_is)
  (case cbl0 => k_is)
  (case kbl0 => k_is)
  (case aas0 => k_is)
  (case las0 => k_is)
  (case cas0 => k_is)
  (case kas0 => k_is)
  (case abh0 => k_is)
  (case lbh0 => k_is)
  (case cbh0 => k_is)
  (case kbh0 => k_is)
  (case abo0 => k_is)
  (case lbo0 => k_is)
  (case cbo0 => k_is)
  (case kbo0 => k_is)
  (case aah0 => k_is)
  (case lah0 => k_is)
  (case cah0 => k_is)
  (case kah0 => k_is)
  (case aak0 => k_is)
  (case lak0 => k_is)
  (case cak0 => k_is)
  (case kak0 => k_is)
  (case aal0 => k_is)
  (case lal0 => k_is)
  (case cal0 => k_is)
  (case kal0 => k_is)
  (case aan0 => k_is)
  (case lan0 => k_is)
  (case can0 => k_is)
  (case kan0 => k_is)
  (case aaq0 => k_is)
  (case laq0 => k_is)
  (case caq0 => k_is)
  (case kaq0 => k_is)
  (case aaj0 => k_is)
  (case laj0 => k_is)
  (case caj0 => k_is)
  (case kaj0 => k_is)
  (case abc0 => k_is)
  (case lbc0 => k_is)
  (case cbc0 => k_is)
  (case kbc0 => k_is)
  (case abe0 => k_is)
  (case lbe0 => k_is)
  (case cbe0 => k_is)
  (case kbe0 => k_is)
  (case abk0 => k_is)
  (case lbk0 => k_is)
  (case cbk0 => k_is)
  (case kbk0 => k_is)
  (case aaw0 => k_is)
  (case law0 => k_is)
  (case caw0 => k_is)
  (case kaw0 => k_is)
  (case abf0 => k_is)
  (case lbf0 => k_is)
  (case cbf0 => k_is)
  (case kbf0 => k_is)
  (case abq0 => k_is)
  (case lbq0 => k_is)
  (case cbq0 => k_is)
  (case kbq0 => k_is)
  (case abd0 => k_is)
  (case lbd0 => k_is)
  (case cbd0 => k_is)
  (case kbd0 => k_is)
  (case aav0 => k_is)
  (case lav0 => k_is)
  (case cav0 => k_is)
  (case kav0 => k_is)
  (case aay0 => k_is)
  (case lay0 => k_is)
  (case cay0 => k_is)
  (case kay0 => k_is)
  (case abp0 => k_is)
  (case lbp0 => k_is)
  (case cbp0 => k_is)
  (case kbp0 => k_is)
  (case abi0 => k_is)
  (case lbi0 => k_is)
  (case cbi0 => k_is)
  (case kbi0 => k_is)
  (case abj0 => k_is)
  (case lbj0 => k_is)
  (case cbj0 => k_is)
  (case kbj0 => k_is)
  (case abm0 => k_is)
  (case lbm0 => k_is)
  (case cbm0 => k_is)
  (case kbm0 => k_is)
  (case atab0 => k_is)
  (case fnab0 => k_is)
  (case lab0 => k_is)
  (case cab0 => k_is)
  (case kab0 => k_is)
  (case ataa0 => k_is)
  (case fnaa0 => k_is)
  (case laa0 => k_is)
  (case caa0 => k_is)
  (case kaa0 => k_is)
  (case atad0 => k_is)
  (case fnad0 => k_is)
  (case lad0 => k_is)
  (case cad0 => k_is)
  (case kad0 => k_is)
  (case atac0 => k_is)
  (case fnac0 => k_is)
  (case lac0 => k_is)
  (case cac0 => k_is)
  (case kac0 => k_is)
  (case aat0 => k_is)
  (case lat0 => k_is)
  (case cat0 => k_is)
  (case kat0 => k_is)
  (case aau0 => k_is)
  (case lau0 => k_is)
  (case cau0 => k_is)
  (case kau0 => k_is)
  (case aaz0 => k_is)
  (case laz0 => k_is)
  (case caz0 => k_is)
  (case kaz0 => k_is)
  (case lTaz0 => k_is)
  (case abn0 => k_is)
  (case lbn0 => k_is)
  (case cbn0 => k_is)
  (case kbn0 => k_is)
  (case aba0 => k_is)
  (case lba0 => k_is)
  (case cba0 => k_is)
  (case kba0 => k_is)
  (case abg0 => k_is)
  (case lbg0 => k_is)
  (case cbg0 => k_is)
  (case kbg0 => k_is)
  (case aax0 => k_is)
  (case lax0 => k_is)
  (case cax0 => k_is)
  (case kax0 => k_is)
  (case aae0 => k_is)
  (case lae0 => k_is)
  (case cae0 => k_is)
  (case kae0 => k_is)
  (case aar0 => k_is)
  (case lar0 => k_is)
  (case car0 => k_is)
  (case kar0 => k_is)
  (case aap0 => k_is)
  (case lap0 => k_is)
  (case cap0 => k_is)
  (case kap0 => k_is)
  (case aai0 => k_is)
  (case lai0 => k_is)
  (case cai0 => k_is)
  (case kai0 => k_is)
  (case aaf0 => k_is)
  (case laf0 => k_is)
  (case caf0 => k_is)
  (case kaf0 => k_is)
  (case aao0 => k_is)
  (case lao0 => k_is)
  (case cao0 => k_is)
  (case kao0 => k_is)
  (case aag0 => k_is)
  (case lag0 => k_is)
  (case cag0 => k_is)
  (case kag0 => k_is)
  (case aam0 => k_is)
  (case lam0 => k_is)
  (case cam0 => k_is)
  (case kam0 => k_is)
  (case abb0 => k_is)
  (case lbb0 => k_is)
  (case cbb0 => k_is)
  (case kbb0 => k_is)
  (case xs_NoFirm => kernel_rfl)
  (case xs_BadAmount => kernel_rfl)
  (case xs_Unheld => kernel_rfl)
  (case xs_Ringed => kernel_rfl)
  (case q_00 => kernel_rfl)
  (case q_10 => kernel_rfl)
  (case q_11 => kernel_rfl)
  (case q_20 => kernel_rfl)
  (case q_21 => kernel_rfl)
  (case q_22 => kernel_rfl)
  (case q_30 => kernel_rfl)
  (case q_31 => kernel_rfl)
  (case q_32 => kernel_rfl)
  (case q_33 => kernel_rfl)
  (case q_b0 => kernel_rfl)
  (case q_v0 => kernel_rfl)
  (case q_s0 => kernel_rfl)
  (case q_o0 => kernel_rfl)
  (case q_w00 => kernel_rfl)
  (case q_w01 => kernel_rfl)
  (case q_w02 => kernel_rfl)
  (case q_w03 => kernel_rfl)
  (case q_b1 => kernel_rfl)
  (case q_v1 => kernel_rfl)
  (case q_s1 => kernel_rfl)
  (case q_o1 => kernel_rfl)
  (case q_w10 => kernel_rfl)
  (case q_w11 => kernel_rfl)
  (case q_w12 => kernel_rfl)
  (case q_w13 => kernel_rfl)
  (case q_b2 => kernel_rfl)
  (case q_v2 => kernel_rfl)
  (case q_s2 => kernel_rfl)
  (case q_o2 => kernel_rfl)
  (case q_w20 => kernel_rfl)
  (case q_w21 => kernel_rfl)
  (case q_w22 => kernel_rfl)
  (case q_w23 => kernel_rfl)
  (case q_b3 => kernel_rfl)
  (case q_v3 => kernel_rfl)
  (case q_s3 => kernel_rfl)
  (case q_o3 => kernel_rfl)
  (case q_w30 => kernel_rfl)
  (case q_w31 => kernel_rfl)
  (case q_w32 => kernel_rfl)
  (case q_w33 => kernel_rfl)
#print axioms PySem.Challenge.cw_groupbooks_k43_refused_tables_holds
