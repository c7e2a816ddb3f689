import PyProof.Rows.All
import Wide.All
import OpenK.AllK
import Wide.FinOn
import Lean
import PyProof.EqAt
import PyProof.EqKinds
import PyProof.TupleCall
import PyProof.StationsW
import PyProof.RulesAs
import PyProof.ExcClass2
import PyProof.ExcInit
import PyProof.InstStore
import PyProof.ExcBaseAll.ValueError
import PyProof.ExcArgs
import PyProof.IsiBase
import PyProof.NsDelKeeps
import PyProof.CompFree
import PyProof.CompUse
import KE.LcSums
import PyProof.Rows.SortWalk
import PyProof.DictWalks
import PyProof.Rows.MinMaxN
import PyProof.Rows.DictUnroll
import PyProof.StrBlockI
import PyProof.NeKinds
import PyProof.AutoListH
import KE.KItemsList
import KE.RegMulBits
import KE.KDictOf
import PyProof.AttrMissHeap
import KE.KDictList
import KE.KRevIter
import KE.KSortTup
import PyProof.Rows.EnumRows
import PyProof.EnumFor
import PyProof.ConsumeWalk
import PyProof.TupleOfSeq
import PyProof.Draws
import PyProof.FactsAll.set
import PyProof.DictItems
import KE.KPairComp
import PyProof.DictValues
import PyProof.ZipIter
import PyProof.Rows.ZipGen
import PyProof.CollectWalk
import PySem.Challenge.RW_groupbooks_k49_whole_one_and_only
set_option Elab.async false
set_option linter.all false
set_option maxRecDepth 100000
set_option maxHeartbeats 4000000
abbrev Q0 := PySem.Value → PySem.Shared → Prop
abbrev Q3 := List (PySem.Addr × PySem.Obj)
abbrev Q4 := PySem.W.Frag
abbrev Q5 := Option PySem.Value
open PySem.W (nsIn fnOf keepIn codeIn mg_of mg_none_of)
section
open PySem PySem.W PyProof.Rows
set_option maxHeartbeats 0
noncomputable def K49.runTop (p : Program) (w : World) (m : Nat) : Nat → SharedT → Thread → Option SharedT
 | 0, _, _ => none
 | k + 1, s, t => match through t with
   | true => some s
   | false => match PySem.W.Fast.tw6613529449190102663 m (some (.ref 6)) t with
     | false => none
     | true => match PySem.W.Fast.tw10156331382660048174 (PySem.W.Fast.tw11892475500146522536 treeTable) p w s t with
       | some x => K49.runTop p w m k x.1 x.2
       | none => none
theorem K49.Qey (p : Program) (w : World) (m : Nat) : ∀ (k : Nat) (s s' : SharedT) (t : Thread),
 K49.runTop p w m k s t = some s' → topRun treeTable p w m (some (.ref 6)) k s.abs t = some s'.abs
 | 0, _, _, _, h => by cases h
 | k + 1, s, s', t, h => by
   unfold K49.runTop at h
   unfold topRun
   cases hT : through t with
   | true => rw [hT] at h; cases h; rfl
   | false =>
     rw [hT] at h
     dsimp only at h ⊢
     rw [← PySem.W.Fast.te6613529449190102663] at h
     cases hk : stepOk m (some (.ref 6)) t with
     | false => rw [hk] at h; exact absurd h (by simp)
     | true =>
       rw [hk] at h
       dsimp only at h ⊢
       rw [← PySem.W.Fast.te10156331382660048174, ← PySem.W.Fast.te11892475500146522536] at h
       cases hs : stepT (denote treeTable) p w s t with
       | none => rw [hs] at h; exact absurd h (by simp)
       | some x =>
         rw [hs] at h
         rw [stepT_spec (s' := x.1) (t' := x.2) hs]
         exact K49.Qey p w m k _ _ _ h
noncomputable def K49.bootT (P : Params) : BT := ((boot_heap P).objs.toList.foldl (fun a o => (a.1.ins a.2 o, a.2 + 1)) (BT.nil, 0)).1
theorem K49.Qmx (P : Params) : absHeap (K49.bootT P) 11 (boot_heap P).life = boot_heap P := by kernel_rfl
theorem K49.Qkk (P : Params) : ((boot_heap P).isNs mainGlobals, (boot_heap P).objs.size, (boot_heap P).nsMap mainGlobals "__annotations__") = (true, 11, some (.ref 6)) := by kernel_rfl
theorem K49.leftAtOnce {p q : Program} {lo : List Str} {A : Shared → Bool} {β : Type} {B : Shared → β} {D : World → β} {N : Nat} {g : Bool}
 (e : opening p = plainProg p.main.scope.names) (f : ∀ s, fenceModules? p s = some s) (hN : Nat.ble 600 N = true)
 (h : ∀ (w : World) (os : OsState), (K49.runTop p w 11 N ⟨K49.bootT w.params, 11, (boot_heap w.params).life, Array.mk [], boot_drawn, boot_toks, os⟩ (topStub p)).map
  (fun s => (staticsOk (importedModules p.main.body) (boot_heap w.params) s.abs.heap && namesBound p s.abs.heap && gensDone s.abs && laidKept (boot_heap w.params) s.abs.heap,
   openSeen q lo (importedModules p.main.body) A g s.abs, B s.abs)) = some (true, openGood q lo, D w)) : LeftO p q lo A B D N g := by
 intro w
 obtain ⟨⟨hh, gs, d, k, os⟩, e1, e2⟩ := Option.map_eq_some_iff.mp (boot_open e hN f w)
 obtain ⟨rfl, rfl, rfl, rfl⟩ : hh = boot_heap w.params ∧ gs = Array.mk [] ∧ d = boot_drawn ∧ k = boot_toks := by simpa using e2
 obtain ⟨s, h1, h2⟩ := Option.map_eq_some_iff.mp (h w os)
 have h3 := K49.Qey _ _ _ _ _ _ _ h1
 have h4 := K49.Qkk w.params
 simp only [Prod.mk.injEq] at h2 h4
 unfold openEnds
 rw [e1]
 change Option.map _ (topFrom treeTable p w N _) = _
 unfold topFrom
 dsimp only
 rw [h4.1, h4.2.1, h4.2.2]
 have h5 : SharedT.abs ⟨K49.bootT w.params, 11, (boot_heap w.params).life, Array.mk [], boot_drawn, boot_toks, os⟩ = ⟨boot_heap w.params, Array.mk [], boot_drawn, boot_toks, os⟩ := by
  unfold SharedT.abs
  rw [K49.Qmx]
 rw [h5] at h3
 show ((topRun treeTable p w 11 (some (.ref 6)) N _ _).bind _).map _ = _
 rw [h3]
 dsimp only [Option.bind]
 rw [h2.1]
 show some (_, _) = _
 rw [h2.2.1, h2.2.2]
def K49.sieve {α : Type} : List α → List Bool → List α
 | a :: l, b :: m => bif b then a :: sieve l m else sieve l m
 | _, _ => []
def K49.headView : Program := { PySem.Challenge.pw_groupbooks_k49_whole_one_and_only with main := { PySem.Challenge.pw_groupbooks_k49_whole_one_and_only.main with
 body := K49.sieve PySem.Challenge.pw_groupbooks_k49_whole_one_and_only.main.body [false, false, false, false, false, false, false, false, false, false, false, false, false, false, false, false, false, false, false, false, false, false, false, false, false, false, false, false, false, false, false, false, false, false, false, false, false, false, false, false, false, false, false, false, false, false, false, false, false, false, false, false, false, false, false, false, false, false, false, false, false, false, false, false, false, true] } }
set_option hygiene false in
local macro_rules | `(tactic| o_head $H) => `(tactic|
 refine holds_open (q := K49.headView) (loose := [PySem.Str.ofString "BooksError", PySem.Str.ofString "NoNumber", PySem.Str.ofString "NoFirm", PySem.Str.ofString "BadAmount", PySem.Str.ofString "Unheld", PySem.Str.ofString "Ringed", PySem.Str.ofString "Singular", PySem.Str.ofString "shares_of", PySem.Str.ofString "all_shares", PySem.Str.ofString "owners_of", PySem.Str.ofString "strangers_of", PySem.Str.ofString "leads_on", PySem.Str.ofString "levels_of", PySem.Str.ofString "ring_of", PySem.Str.ofString "checked", PySem.Str.ofString "divisor", PySem.Str.ofString "fraction", PySem.Str.ofString "lowest", PySem.Str.ofString "joined", PySem.Str.ofString "times", PySem.Str.ofString "over", PySem.Str.ofString "sum_of", PySem.Str.ofString "square_of", PySem.Str.ofString "only_at", PySem.Str.ofString "widened", PySem.Str.ofString "lean", PySem.Str.ofString "cleared", PySem.Str.ofString "first_with", PySem.Str.ofString "turned", PySem.Str.ofString "pair_of", PySem.Str.ofString "paper_of", PySem.Str.ofString "held_by", PySem.Str.ofString "part_good", PySem.Str.ofString "parts_good", PySem.Str.ofString "checked_paper", PySem.Str.ofString "stranger_part", PySem.Str.ofString "last_parts", PySem.Str.ofString "firm_parts", PySem.Str.ofString "_law_cell_at", PySem.Str.ofString "_law_whole", PySem.Str.ofString "_law_mix", PySem.Str.ofString "_law_names", PySem.Str.ofString "_law_people", PySem.Str.ofString "_law_shares", PySem.Str.ofString "_law_good", PySem.Str.ofString "_law_held", PySem.Str.ofString "_law_divisor", PySem.Str.ofString "_law_is_fraction", PySem.Str.ofString "_law_sum", PySem.Str.ofString "_law_all", PySem.Str.ofString "_law_right", PySem.Str.ofString "_law_bounds", PySem.Str.ofString "_law_told_parts", PySem.Str.ofString "_law_out", PySem.Str.ofString "_law_paper_holds", PySem.Str.ofString "_law_by_paper", PySem.Str.ofString "_law_good_asked", PySem.Str.ofString "_law_lists", PySem.Str.ofString "_law_alone"]) (N := 20000)
  (Yf := Hook.obs $H) (Ya := Hook.val $H) (YP := Hook.says $H)
  (XP := XL K49.headView []) (Xt := fun s => xlAt K49.headView [] s && recOk (RowW.records (OpenRow.toRowW (OpenLaw.row PySem.Challenge.rw_groupbooks_k49_whole_one_and_only))) s)
  (K49.leftAtOnce (by kernel_rfl) (fun s => by kernel_rfl) rfl (fun w os => by kernel_rfl)) (Hook.of $H) (Hook.keeps $H)
  (fun s e => xl_of s (Bool.and_eq_true_iff.mp e).1)
  XL.keeps (by rfl) (by rfl) (by rfl)
  (fun s e => recFacts_of (Bool.and_eq_true_iff.mp e).2) (by rfl) (by assumption) (by decide+kernel)
  ⟨rfl, rfl, rfl, rfl, rfl, by decide+kernel⟩ ?hw ?hc)
open_top K49.headTop for PySem.Challenge.rw_groupbooks_k49_whole_one_and_only
end
namespace L2
open PySem PySem.Spec PyProof.Rows
abbrev Key := Sum Int Str
def keyIs : Key → Value → Bool
 | .inl k, v => Value.isInt k v
 | .inr x, v => Value.isStrOf x v
def keyH (w : World) : Key → Int
 | .inl k => hashInt k
 | .inr x => hashStr w x
theorem Qbi : ∀ {k : Key} {v : Value}, keyIs k v = true → (∃ i t, k = Sum.inl i ∧ v = Value.int i t) ∨ (∃ x t, k = Sum.inr x ∧ v = Value.str x t)
 | .inl i, v, h => by
   obtain ⟨t, e⟩ := Value.isInt_shape (k := i) (v := v) h
   exact .inl ⟨i, t, rfl, e⟩
 | .inr x, v, h => by
   obtain ⟨t, e⟩ := Value.isStrOf_shape (x := x) (v := v) h
   exact .inr ⟨x, t, rfl, e⟩
theorem Qie (i : Int) (t : Tok) : keyIs (.inl i) (.int i t) = true := by simp [keyIs, Value.isInt]
theorem Qid (x : Str) (t : Tok) : keyIs (.inr x) (.str x t) = true := by simp [keyIs, Value.isStrOf]
theorem key_ll (a b : Int) : decide ((Sum.inl a : Key) = Sum.inl b) = (a == b) := by
 by_cases e : a = b
 ·subst e; simp
 ·have h : ¬ (Sum.inl a : Key) = Sum.inl b := fun q => e (Sum.inl.inj q)
  rw [decide_eq_false h]
  exact (beq_eq_false_iff_ne.mpr e).symm
theorem key_rr (a b : Str) : decide ((Sum.inr a : Key) = Sum.inr b) = decide (a = b) := by
 by_cases e : a = b
 ·subst e; simp
 ·have h : ¬ (Sum.inr a : Key) = Sum.inr b := fun q => e (Sum.inr.inj q)
  rw [decide_eq_false h, decide_eq_false e]
theorem key_lr (a : Int) (b : Str) : decide ((Sum.inl a : Key) = Sum.inr b) = false := decide_eq_false (fun q => nomatch q)
theorem key_rl (a : Str) (b : Int) : decide ((Sum.inr a : Key) = Sum.inl b) = false := decide_eq_false (fun q => nomatch q)
def mixKind (prog : Program) (w : World) : PySem.KeyKind prog w Key where
 is := keyIs
 hash := keyH w
 inj := fun v a b ha hb => by
  rcases Qbi ha with ⟨i, t, rfl, rfl⟩ | ⟨x, t, rfl, rfl⟩
  ·rcases Qbi hb with ⟨j, u, rfl, e⟩ | ⟨y, u, rfl, e⟩
   ·injection e with e1 _; rw [e1]
   ·exact nomatch e
  ·rcases Qbi hb with ⟨j, u, rfl, e⟩ | ⟨y, u, rfl, e⟩
   ·exact nomatch e
   ·injection e with e1 _; rw [e1]
 byValue := fun k v h => by
  rcases Qbi h with ⟨i, t, rfl, rfl⟩ | ⟨x, t, rfl, rfl⟩ <;> rfl
 pyHash := fun hv h => by
  rcases Qbi hv with ⟨i, t, rfl, rfl⟩ | ⟨x, t, rfl, rfl⟩
  ·exact wpAny_pyHash_int h
  ·exact wpAny_pyHash_str h
 eqBool := fun hu hv h => by
  rcases Qbi hu with ⟨i, t, rfl, rfl⟩ | ⟨x, t, rfl, rfl⟩
  ·rcases Qbi hv with ⟨j, u, rfl, rfl⟩ | ⟨y, u, rfl, rfl⟩
   ·rw [key_ll] at h; exact wpAny_eqBool_int h
   ·rw [key_lr] at h; exact SeqAt.EqAt.int_str i t y u _ _ _ _ h
  ·rcases Qbi hv with ⟨j, u, rfl, rfl⟩ | ⟨y, u, rfl, rfl⟩
   ·rw [key_rl] at h; exact SeqAt.EqAt.str_int x t j u _ _ _ _ h
   ·rw [key_rr] at h; exact wpAny_eqBool_str h
 «strs» := fun k x t v h => by
  rcases Qbi h with ⟨i, u, rfl, e⟩ | ⟨y, u, rfl, e⟩
  ·exact nomatch e
  ·injection e with e1 _
   subst e1
   cases v <;> rfl
theorem Qfv (prog : Program) (w : World) (i : Int) (t : Tok) : (mixKind prog w).is (.inl i) (.int i t) = true := Qie i t
theorem Qfu (prog : Program) (w : World) (x : Str) (t : Tok) : (mixKind prog w).is (.inr x) (.str x t) = true := Qid x t
end L2
namespace L2
open PySem PySem.Spec PyProof.Rows
inductive V where
 | non | bl (b : Bool) | int (i : Int) | str (x : Str) | byt (b : Array UInt8) | flt (b : UInt64) | ref (a : Addr) | ty (n : String)
 deriving DecidableEq
def RelV : V → Value → Prop
 | .non, u => u = Value.none
 | .bl b, u => u = Value.bool b
 | .int i, u => ∃ t, u = Value.int i t
 | .str x, u => ∃ t, u = Value.str x t
 | .byt b, u => ∃ t, u = Value.bytes b t
 | .flt b, u => ∃ t, u = Value.float b t
 | .ref a, u => u = Value.ref a
 | .ty n, u => u = Value.type n
abbrev Vals : List V → List Value → Prop := Paired RelV
theorem Vals.length {xs : List V} {us : List Value} (r : Vals xs us) : xs.length = us.length := Paired.length r
theorem Vals.get : ∀ {xs : List V} {us : List Value} {i : Nat} {x : V}, Vals xs us → xs[i]? = some x → ∃ u, us[i]? = some u ∧ RelV x u
 | _, _, _, _, .nil, e => by simp at e
 | _, _, 0, _, .cons r _, e => by simp at e; subst e; exact ⟨_, rfl, r⟩
 | _, _, i + 1, x, .cons _ t, e => by
   obtain ⟨u, h1, h2⟩ := Vals.get (i := i) (x := x) t (by simpa using e)
   exact ⟨u, by simpa using h1, h2⟩
theorem Vals.set {x : V} {u : Value} (r : RelV x u) : ∀ {xs : List V} {us : List Value} (i : Nat), Vals xs us → Vals (xs.set i x) (us.set i u)
 | _, _, _, .nil => .nil
 | _, _, 0, .cons _ t => .cons r t
 | _, _, i + 1, .cons q t => .cons q (Vals.set r i t)
theorem Vals.append : ∀ {xs ys : List V} {us ws : List Value}, Vals xs us → Vals ys ws → Vals (xs ++ ys) (us ++ ws)
 | _, _, _, _, .nil, s => s
 | _, _, _, _, .cons r t, s => .cons r (Vals.append t s)
theorem Vals.take : ∀ {xs : List V} {us : List Value} (n : Nat), Vals xs us → Vals (xs.take n) (us.take n)
 | _, _, 0, _ => .nil
 | _, _, _ + 1, .nil => .nil
 | _, _, n + 1, .cons r t => .cons r (Vals.take n t)
theorem Vals.drop : ∀ {xs : List V} {us : List Value} (n : Nat), Vals xs us → Vals (xs.drop n) (us.drop n)
 | _, _, 0, r => r
 | _, _, _ + 1, .nil => .nil
 | _, _, n + 1, .cons _ t => Vals.drop n t
def RelO : Option V → Option Value → Prop
 | some v, some u => RelV v u
 | none, none => True
 | _, _ => False
def KV {κ : Type} : List (κ × V) → List (κ × Value) → Prop := Paired fun (p : κ × V) (q : κ × Value) => p.1 = q.1 ∧ RelV p.2 q.2
def kV : Key → V
 | .inl i => .int i
 | .inr x => .str x
inductive HO where
 | lst (xs : List V)
 | tup (xs : List V)
 | dK (kvs : List (Key × V)) | dT (kvs : List (List Key × V))
 | set (S : Int → Bool) (n : Nat)
 | ins (C dx : Addr) (fs : List (Str × V))
 | own (x : Addr)
 | xd (fs : List (Str × V))
 | met (f x : Addr)
 | rng (lo hi : Int)
 | frz (o : Obj) (u : HO)
 | tbl (ps : Array Value)
 | ext (φ : Heap → Prop)
abbrev Hp := Addr → Option HO
def upd (H : Hp) (a : Addr) (o : HO) : Hp := fun b => if b = a then some o else H b
theorem Qab {H : Hp} {a : Addr} {o : HO} : upd H a o a = some o := by unfold upd; rw [if_pos rfl]
theorem Qar {H : Hp} {a b : Addr} {o : HO} (h : b ≠ a) : upd H a o b = H b := by unfold upd; rw [if_neg h]
theorem Ql1 {H : Hp} {a b : Addr} {o u : HO} (h : H a = some o) (h' : H b = some u) (d : o ≠ u) : a ≠ b := by
 intro e; subst e; rw [h] at h'; exact d (Option.some.inj h')
theorem Qal {H : Hp} {a b : Addr} {o : HO} (h : H a = some o) (h' : H b = none) : a ≠ b := by
 intro e; subst e; rw [h] at h'; cases h'
section
variable (P : Program) (w : World)
def ObjOk (H : Hp) (h : Heap) (a : Addr) : HO → Prop
 | .lst xs => xs.length ≤ sizeLine ∧ ∃ (its : List Value) (n : Nat), Vals xs its ∧ h.get? a = some { cls := .type "list", data := .seq its.toArray n }
 | .tup xs => xs.length ≤ sizeLine ∧ ∃ its : List Value, Vals xs its ∧ IsTup h a its.toArray
 | .dK kvs => kvs.length ≤ sizeLine ∧ (a == sysModules) = false ∧ ∃ vs, KV kvs vs ∧ h.DictOf (mixKind P w) a vs
 | .dT kvs => kvs.length ≤ sizeLine ∧ (a == sysModules) = false ∧ ∃ xs : List (List Key × Addr × Value),
  Paired (fun (p : List Key × V) (q : List Key × Addr × Value) => p.1 = q.1 ∧ H q.2.1 = some (.tup (p.1.map kV)) ∧ RelV p.2 q.2.2) kvs xs ∧
  ∃ o es ep, h.get? a = some o ∧ o.ExactDict ∧ o.data = .dict es ep ∧ es.toList = xs.map (entryOfKey (tupleKind (mixKind P w))) ∧ (xs.map (·.1)).Nodup
 | .set S n => h.SetOf (intKind P w) a S n
 | .ins C dx fs => H dx = some (.own a) ∧ fs.length ≤ 1000 ∧ dx ≠ a ∧ h.get? a = some (PySem.W.instObj C dx) ∧
  ∃ mA, h.Ns1 dx mA ∧ (∀ f, RelO (fs.lookup f) (mA f)) ∧ PySem.Within mA (fs.map (·.1))
 | .own _ => ∃ o, h.get? a = some o
 | .xd fs => ∃ mA, h.Ns1 a mA ∧ ∀ f, RelO (fs.lookup f) (mA f)
 | .rng lo hi => ∃ t u v, h.get? a = some { cls := .type "range", data := .fields #[.int lo t, .int hi u, .int 1 v] }
 | .frz o u => h.get? a = some o ∧ ObjOk H h a u
 | .tbl ps => h.get? a = some { cls := .none, data := .fields ps }
 | .met f x => h.get? a = some (PySem.W.methodObj (.ref f) (.ref x))
 | .ext φ => φ h ∧ (∃ o, h.get? a = some o) ∧ ∀ h1 h2 : Heap, φ h1 → (∀ o, h1.get? a = some o → h2.get? a = some o) → φ h2
def HOk (H : Hp) (h : Heap) : Prop := ∀ a o, H a = some o → ObjOk P w H h a o
end
section
variable {P : Program} {w : World} {H H' : Hp} {h h' : Heap} {a : Addr} {o : HO}
theorem ObjOk.lt (x : ObjOk P w H h a o) : a < h.objs.size := by
 cases o with
 | lst xs => obtain ⟨_, _, _, _, e⟩ := x; exact Heap.lt_size e
 | tup xs => obtain ⟨_, _, _, p⟩ := x; exact p.lt
 | dK kvs => obtain ⟨_, _, _, _, o, _, _, e, _⟩ := x; exact Heap.lt_size e
 | dT kvs => obtain ⟨_, _, _, _, o, _, _, e, _⟩ := x; exact Heap.lt_size e
 | set S n => obtain ⟨o, _, _, _, e, _⟩ := x; exact Heap.lt_size e
 | ins C dx fs => obtain ⟨_, _, _, e, _⟩ := x; exact Heap.lt_size e
 | own y => obtain ⟨_, e⟩ := x; exact Heap.lt_size e
 | xd fs => obtain ⟨_, ⟨_, _, _, e, _⟩, _⟩ := x; exact Heap.lt_size e
 | rng lo hi => obtain ⟨_, _, _, e⟩ := x; exact Heap.lt_size e
 | frz ob u => obtain ⟨e, _⟩ := x; exact Heap.lt_size e
 | tbl ps => exact Heap.lt_size (show h.get? a = some _ from x)
 | met f y => exact Heap.lt_size (show h.get? a = some _ from x)
 | ext φ => obtain ⟨_, ⟨_, e⟩, _⟩ := x; exact Heap.lt_size e
theorem Paired.mapP {α β : Type} {F G : α → β → Prop} : ∀ {l₁ : List α} {l₂ : List β}, Paired F l₁ l₂ → (∀ a b, F a b → G a b) → Paired G l₁ l₂
 | _, _, .nil, _ => .nil
 | _, _, .cons r t, f => .cons (f _ _ r) (Paired.mapP t f)
theorem ObjOk.stay (x : ObjOk P w H h a o) (k : ∀ b u, (b = a ∨ H b = some (.own a)) → h.get? b = some u → h'.get? b = some u)
 (ho : ∀ b, H b = some (.own a) → H' b = some (.own a)) (ht : ∀ b xs, H b = some (.tup xs) → H' b = some (.tup xs)) : ObjOk P w H' h' a o := by
 induction o with
 | lst xs => obtain ⟨z, its, n, r, e⟩ := x; exact ⟨z, its, n, r, k _ _ (.inl rfl) e⟩
 | tup xs => obtain ⟨z, its, r, ob, e, c⟩ := x; exact ⟨z, its, r, ob, k _ _ (.inl rfl) e, c⟩
 | dK kvs => obtain ⟨z, y, vs, r, ob, es, ep, e, c⟩ := x; exact ⟨z, y, vs, r, ob, es, ep, k _ _ (.inl rfl) e, c⟩
 | dT kvs =>
   obtain ⟨z, y, xs, r, ob, es, ep, e, c⟩ := x
   exact ⟨z, y, xs, Paired.mapP r fun p q z => ⟨z.1, ht _ _ z.2.1, z.2.2⟩, ob, es, ep, k _ _ (.inl rfl) e, c⟩
 | set S n => obtain ⟨ob, es, ep, t, e, c⟩ := x; exact ⟨ob, es, ep, t, k _ _ (.inl rfl) e, c⟩
 | ins C dx fs =>
   obtain ⟨d, z, ne, e, mA, ⟨od, es, ep, e2, c⟩, r⟩ := x
   exact ⟨ho _ d, z, ne, k _ _ (.inl rfl) e, mA, ⟨od, es, ep, k _ _ (.inr d) e2, c⟩, r⟩
 | own y => obtain ⟨ob, e⟩ := x; exact ⟨ob, k _ _ (.inl rfl) e⟩
 | xd fs => obtain ⟨mA, ⟨od, es, ep, e, c⟩, r⟩ := x; exact ⟨mA, ⟨od, es, ep, k _ _ (.inl rfl) e, c⟩, r⟩
 | rng lo hi => obtain ⟨t, u, v, e⟩ := x; exact ⟨t, u, v, k _ _ (.inl rfl) e⟩
 | frz ob u ih => obtain ⟨e, q⟩ := x; exact ⟨k _ _ (.inl rfl) e, ih q⟩
 | tbl ps =>
   have e : h.get? a = some { cls := .none, data := .fields ps } := x
   show h'.get? a = some { cls := .none, data := .fields ps }
   exact k a _ (.inl rfl) e
 | met f y =>
   have e : h.get? a = some (PySem.W.methodObj (.ref f) (.ref y)) := x
   show h'.get? a = some (PySem.W.methodObj (.ref f) (.ref y))
   exact k a _ (.inl rfl) e
 | ext φ => obtain ⟨p, ⟨o, e⟩, st⟩ := x; exact ⟨st _ _ p fun o q => k _ _ (.inl rfl) q, ⟨o, k _ _ (.inl rfl) e⟩, st⟩
theorem HOk.lt (x : HOk P w H h) (e : H a = some o) : a < h.objs.size := (x a o e).lt
theorem HOk.fresh (x : HOk P w H h) (e : h.objs.size ≤ a) : H a = none := by
 cases q : H a with
 | none => rfl
 | some u => exact absurd (Nat.lt_of_lt_of_le (x.lt q) e) (Nat.lt_irrefl _)
theorem HOk.kept (x : HOk P w H h) (k : ∀ b u, h.get? b = some u → h'.get? b = some u) : HOk P w H h' := fun a o e =>
 (x a o e).stay (fun b u _ q => k b u q) (fun _ q => q) fun _ _ q => q
theorem HOk.laid (x : HOk P w H h) (k : ∀ b u, h.get? b = some u → h'.get? b = some u) (hp : h.objs.size ≤ a) (new : ObjOk P w (upd H a o) h' a o) : HOk P w (upd H a o) h' := fun b u e => by
 have hn := x.fresh hp
 by_cases hb : b = a
 ·subst hb; rw [Qab] at e; cases e; exact new
 ·rw [Qar hb] at e
  exact (x b u e).stay (fun c v _ q => k c v q) (fun c q => by rw [Qar (Qal q hn)]; exact q) fun c xs q => by rw [Qar (Qal q hn)]; exact q
end
def Rd (H : Hp) (a : Addr) (u : HO) : Prop := H a = some u ∨ ∃ o, H a = some (.frz o u)
theorem Rd.of {H : Hp} {a : Addr} {u : HO} (h : H a = some u) : Rd H a u := .inl h
theorem Rd.ok {P : Program} {w : World} {H : Hp} {h : Heap} {a : Addr} {u : HO} (r : Rd H a u) (x : HOk P w H h) : ObjOk P w H h a u := by
 rcases r with r | ⟨o, r⟩
 ·exact x a u r
 ·obtain ⟨_, q⟩ := x a _ r
  exact q
def Mut : Option HO → Prop
 | some (.lst _) => True
 | some (.dK _) => True
 | some (.dT _) => True
 | some (.set _ _) => True
 | some (.ins _ _ _) => True
 | some (.ext _) => True
 | _ => False
section
variable {P : Program} {w : World} {H : Hp} {h h' : Heap} {x e : Addr} {o' : HO}
theorem HOk.write (ok : HOk P w H h) (mu : Mut (H x)) (he : e = x ∨ H e = some (.own x)) (k : ∀ b u, b ≠ e → h.get? b = some u → h'.get? b = some u) (heo : ∃ u, h'.get? e = some u)
 (new : ObjOk P w (upd H x o') h' x o') : HOk P w (upd H x o') h' := fun b u q => by
 have nown : ∀ c y, H c = some (.own y) → c ≠ x := fun c y r z => by subst z; rw [r] at mu; exact mu
 have ntup : ∀ c xs, H c = some (.tup xs) → c ≠ x := fun c xs r z => by subst z; rw [r] at mu; exact mu
 by_cases hb : b = x
 ·subst hb; rw [Qab] at q; cases q; exact new
 ·rw [Qar hb] at q
  by_cases hbe : b = e
  ·have q' : H b = some (.own x) := by
    rcases he with z | z
    ·exact absurd (hbe.trans z) hb
    ·rw [hbe]; exact z
   rw [q] at q'; cases q'
   obtain ⟨v, hv⟩ := heo
   exact ⟨v, by rw [hbe]; exact hv⟩
  ·refine (ok b u q).stay (fun c v hc r => k c v ?_ r) (fun c r => by rw [Qar (nown c b r)]; exact r) fun c xs r => by rw [Qar (ntup c xs r)]; exact r
   rcases hc with rfl | hc
   ·exact hbe
   ·rintro rfl
    rcases he with z | z
    ·exact nown c b hc z
    ·rw [hc] at z; cases z; exact hb rfl
end
structure Un (fs ex : List Addr) (H H' : Hp) (h h' : Heap) : Prop where
 keep : ∀ b o, h.get? b = some o → H b = none → b ∉ fs → b ∉ ex → h'.get? b = some o
 slot : ∀ b o, h.get? b = some o → H b = none → b ∈ fs → b ∉ ex → ∃ sl, h'.get? b = some { o with slots := sl }
 free : ∀ b o, h.get? b = some o → H b = none → b ∉ ex → H' b = none
 there : ∀ b o, h.get? b = some o → b ∉ ex → ∃ o', h'.get? b = some o'
 tups : ∀ b xs, H b = some (.tup xs) → H' b = some (.tup xs)
 frzs : ∀ b o u, H b = some (.frz o u) → H' b = some (.frz o u)
 tbls : ∀ b ps, H b = some (.tbl ps) → ∃ more, H' b = some (.tbl (ps ++ more))
section
variable {fs fs' ex ex' : List Addr} {H H1 H2 : Hp} {h h1 h2 h' : Heap} {a x e : Addr} {o : HO}
theorem Un.any (u : Un fs ex H H1 h h1) {b : Addr} {ob : Obj} (q : h.get? b = some ob) (n : H b = none) (hx : b ∉ ex) : ∃ sl, h1.get? b = some { ob with slots := sl } := by
 by_cases hb : b ∈ fs
 ·exact u.slot b ob q n hb hx
 ·exact ⟨ob.slots, u.keep b ob q n hb hx⟩
theorem Un.trans (a : Un fs ex H H1 h h1) (b : Un fs ex H1 H2 h1 h2) : Un fs ex H H2 h h2 where
 keep := fun c ob q n hc hx => b.keep c ob (a.keep c ob q n hc hx) (a.free c ob q n hx) hc hx
 slot := fun c ob q n hc hx => by
  obtain ⟨sl, e1⟩ := a.slot c ob q n hc hx
  obtain ⟨sl', e2⟩ := b.slot c _ e1 (a.free c ob q n hx) hc hx
  exact ⟨sl', e2⟩
 free := fun c ob q n hx => by
  obtain ⟨o', e1⟩ := a.there c ob q hx
  exact b.free c o' e1 (a.free c ob q n hx) hx
 there := fun c ob q hx => by
  obtain ⟨o', e1⟩ := a.there c ob q hx
  exact b.there c o' e1 hx
 tups := fun c xs q => b.tups c xs (a.tups c xs q)
 frzs := fun c ob xs q => b.frzs c ob xs (a.frzs c ob xs q)
 tbls := fun c ps q => by
  obtain ⟨m1, e1⟩ := a.tbls c ps q
  obtain ⟨m2, e2⟩ := b.tbls c _ e1
  exact ⟨m1 ++ m2, by rw [e2, Array.append_assoc]⟩
theorem Un.kept (k : ∀ b u, h.get? b = some u → h'.get? b = some u) : Un fs ex H H h h' :=
 ⟨fun b ob q _ _ _ => k b ob q, fun b ob q _ _ _ => ⟨ob.slots, k b ob q⟩, fun _ _ _ n _ => n, fun b ob q _ => ⟨ob, k b ob q⟩, fun _ _ q => q, fun _ _ _ q => q, fun _ ps q => ⟨#[], by rw [q]; simp⟩⟩
theorem Un.refl : Un fs ex H H h h := Un.kept fun _ _ q => q
theorem Un.laid (k : ∀ b u, h.get? b = some u → h'.get? b = some u) (hp : h.objs.size ≤ a) (hn : H a = none) : Un fs ex H (upd H a o) h h' where
 keep := fun b u q _ _ _ => k b u q
 slot := fun b u q _ _ _ => ⟨u.slots, k b u q⟩
 free := fun b u q n _ => by rw [Qar (Nat.ne_of_lt (Nat.lt_of_lt_of_le (Heap.lt_size q) hp))]; exact n
 there := fun b u q _ => ⟨u, k b u q⟩
 tups := fun b xs q => by rw [Qar (Qal q hn)]; exact q
 frzs := fun b u xs q => by rw [Qar (Qal q hn)]; exact q
 tbls := fun b ps q => ⟨#[], by rw [Qar (Qal q hn), q]; simp⟩
theorem Un.write (mu : Mut (H x)) (he : e = x ∨ H e = some (.own x)) (k : ∀ b u, b ≠ e → h.get? b = some u → h'.get? b = some u) (heo : ∃ u, h'.get? e = some u) : Un fs ex H (upd H x o) h h' := by
 have hx : ∀ b, H b = none → b ≠ x := fun b n z => by subst z; rw [n] at mu; exact mu
 have hb : ∀ b, H b = none → b ≠ e := fun b n z => by
  subst z
  rcases he with r | r
  ·exact hx b n r
  ·rw [n] at r; cases r
 have hm : ∀ b u, H b = some u → ¬ Mut (some u) → b ≠ x := fun b u q nm z => by subst z; rw [q] at mu; exact nm mu
 refine ⟨fun b u q n _ _ => k b u (hb b n) q, fun b u q n _ _ => ⟨u.slots, k b u (hb b n) q⟩, fun b u q n _ => by rw [Qar (hx b n)]; exact n, fun b u q _ => ?_,
  fun b xs q => by rw [Qar (hm b _ q fun z => z)]; exact q, fun b u xs q => by rw [Qar (hm b _ q fun z => z)]; exact q, fun b ps q => ⟨#[], by rw [Qar (hm b _ q fun z => z), q]; simp⟩⟩
 by_cases hbe : b = e
 ·subst hbe; exact heo
 ·exact ⟨u, k b u hbe q⟩
end
def trk (h : Heap) (H : Hp) : List Addr := (List.range h.objs.size).filter fun a => (H a).isSome
def hidT (h : Heap) (H : Hp) : Heap := PySem.W.hideAll h (trk h H)
theorem Qiq (h : Heap) (H : Hp) : (hidT h H).objs.size = h.objs.size := PySem.W.hideAll_size _ _
theorem Qka {h : Heap} {H : Hp} {b : Addr} {o : Obj} (e : h.get? b = some o) (n : H b = none) : (hidT h H).get? b = some o :=
 PySem.W.hideAll_get _ e fun hm => by
  have q : (H b).isSome = true := (List.mem_filter.mp hm).2
  rw [n] at q; simp at q
theorem Ql0 {h : Heap} {H : Hp} {b : Addr} {o : Obj} (e : (hidT h H).get? b = some o) : h.get? b = some o ∧ H b = none := by
 have e' : h.get? b = some o := PySem.W.of_hideAll (trk h H) e
 refine ⟨e', ?_⟩
 cases q : H b with
 | none => rfl
 | some x =>
   have hm : b ∈ trk h H := List.mem_filter.mpr ⟨List.mem_range.mpr (Heap.lt_size e'), by simp [q]⟩
   have z : (hidT h H).get? b = none := PySem.W.hideAll_none (trk h H) hm
   rw [z] at e; cases e
end L2
namespace L2
open PySem PySem.Spec PyProof.Rows
structure Mod (K : Q4) (mg : Str → Option Value) (base : Heap) : Prop where
 kin : K.In base
 glob : base.Ns mainGlobals mg
 blt : ∃ mb, base.Ns builtinsNs mb ∧ ∀ x : Str, x ≠ "__name__" → mb x = bootBuiltins x
 nolimit : base.NoLimit
structure Cx where
 prog : Program
 w : World
 K : PySem.W.Frag
 mg : Str → Option Value
 base : Heap
 A : Around
 N : List Str
 s₀ : Shared
 H₀ : Hp
 env : Env
 outer : List Env
 stack : List Env
 ex : List Addr
 fn : Str → Bool
 calm : Bool
 pn : List (Addr × Obj)
 xe : Value → Shared → Prop
def frs (l : List Env) : List Addr := l.filterMap (·.frame)
abbrev Cx.fs (X : Cx) : List Addr := frs X.outer
def Vis (sc : Scope) (x : Str) : Prop := sc.names.lookup x = some .local ∨ sc.names.lookup x = some .cell ∨ sc.names.lookup x = some .free
def Loc (sc : Scope) (x : Str) : Prop := sc.names.lookup x = some .local ∨ sc.names.lookup x = some .cell
def Look (env : Env) (h : Heap) (m : Str → Option Value) (x : Str) (u : Value) : Prop :=
 (env.kindOf x = some .local ∧ m x = some u) ∨ ((env.kindOf x = some .cell ∨ env.kindOf x = some .free) ∧ ∃ c, env.cells.lookup x = some c ∧ h.IsCell c (some u))
structure Cx.Ok (X : Cx) : Prop where
 mod : Mod X.K X.mg X.base
 kind : X.env.scope.kind = .function
 glob : X.env.globals = mainGlobals
 blt : X.env.builtins = builtinsNs
 above : X.s₀.heap.objs.size ≤ X.env.locals
 inj : ∀ x y c, X.env.cells.lookup x = some c → X.env.cells.lookup y = some c → x = y
 has : ∀ x, (X.env.kindOf x = some .cell ∨ X.env.kindOf x = some .free) → ∃ c, X.env.cells.lookup x = some c
 cab : ∀ x c, X.fn x = true → X.env.cells.lookup x = some c → X.s₀.heap.objs.size ≤ c
 hd : X.calm = true → X.A.handled = none
 frames : X.A.frames = some X.stack
 stk : X.stack = X.outer ∨ (X.stack = X.env :: X.outer ∧ X.env.frame = some X.env.locals)
 exf : ∀ b ∈ X.ex, b ≠ X.env.locals ∧ ∀ x c, X.env.cells.lookup x = some c → c ≠ b
 bs : ∀ b o, X.base.get? b = some o → X.s₀.heap.get? b = some o ∧ X.H₀ b = none
 bsz : X.base.objs.size ≤ X.s₀.heap.objs.size
 noex : ∀ b o, X.base.get? b = some o → b ∉ X.ex
 exfs : ∀ b ∈ X.ex, b ∉ X.fs
 funs : X.s₀.heap.FunFrames X.base X.outer
 frf : ∀ b ∈ X.fs, X.H₀ b = none
structure Inv (X : Cx) (pins : Q3) (σ : List (Option V)) (H : Hp) (s : Shared) : Prop where
 ok : X.Ok
 os : s.os = X.s₀.os
 bare : AllBare s.gens
 base : Un X.fs X.ex X.H₀ H X.s₀.heap s.heap
 loc : ∃ m, s.heap.Ns X.env.locals m ∧ ∀ (i : Nat) (x : Str) (v : V), X.N[i]? = some x → σ[i]? = some (some v) → Vis X.env.scope x → ∃ u, RelV v u ∧ Look X.env s.heap m x u
 cell : ∀ x c, X.env.cells.lookup x = some c → ∃ v, s.heap.IsCell c v
 free : H X.env.locals = none
 freeC : ∀ x c, X.env.cells.lookup x = some c → H c = none
 pin : ∀ p ∈ X.pn ++ pins, s.heap.get? p.1 = some p.2 ∧ H p.1 = none ∧ p.1 ≠ X.env.locals ∧ p.1 ∉ X.fs ∧ ∀ v, p.2.data ≠ .cell v
 hok : HOk X.prog X.w H s.heap
 len : σ.length = X.N.length
section
variable {X : Cx} {pins : Q3} {σ : List (Option V)} {H H' : Hp} {s : Shared} {h' : Heap}
theorem Cx.Ok.nofr (ok : X.Ok) {b : Addr} {o : Obj} (e : X.base.get? b = some o) : b ∉ X.fs := fun hb => by
 have := (ok.funs.mem hb).1
 rw [e] at this; cases this
theorem Inv.bs (I : Inv X pins σ H s) : ∀ b o, X.base.get? b = some o → s.heap.get? b = some o ∧ H b = none := fun b o e =>
 ⟨I.base.keep b o (I.ok.bs b o e).1 (I.ok.bs b o e).2 (I.ok.nofr e) (I.ok.noex b o e), I.base.free b o (I.ok.bs b o e).1 (I.ok.bs b o e).2 (I.ok.noex b o e)⟩
theorem Inv.bk (I : Inv X pins σ H s) : ∀ b o, X.base.get? b = some o → s.heap.get? b = some o := fun b o e => (I.bs b o e).1
theorem Inv.mod (I : Inv X pins σ H s) : Mod X.K X.mg X.base := I.ok.mod
theorem Inv.kIn (I : Inv X pins σ H s) : X.K.In s.heap := I.ok.mod.kin.keeps I.bk
theorem Inv.lt (I : Inv X pins σ H s) : X.env.locals < s.heap.objs.size := let ⟨_, hn, _⟩ := I.loc; hn.lt
theorem Inv.sz (I : Inv X pins σ H s) : X.s₀.heap.objs.size ≤ s.heap.objs.size := Nat.le_trans I.ok.above (Nat.le_of_lt I.lt)
theorem Inv.nofs (I : Inv X pins σ H s) {a : Addr} (h : s.heap.objs.size ≤ a) : a ∉ X.fs := fun hb => by
 obtain ⟨_, o, ho, _⟩ := I.ok.funs.mem hb
 exact absurd (Nat.lt_of_lt_of_le (Heap.lt_size ho) (Nat.le_trans I.sz h)) (Nat.lt_irrefl _)
theorem Inv.cne (I : Inv X pins σ H s) : ∀ x c, X.env.cells.lookup x = some c → c ≠ X.env.locals := fun x c e z => by
 obtain ⟨v, o, ho, hd⟩ := I.cell x c e
 obtain ⟨m, ⟨o', es, ep, ho', hd', _⟩, _⟩ := I.loc
 rw [z, ho'] at ho; cases ho; rw [hd'] at hd; cases hd
theorem Inv.funs (I : Inv X pins σ H s) : s.heap.FunFrames X.base X.outer := by
 have all : ∀ (l : List Env), (∀ b ∈ frs l, b ∈ X.fs) → X.s₀.heap.FunFrames X.base l → s.heap.FunFrames X.base l := by
  intro l
  induction l with
  | nil => intro _ _; trivial
  | cons env r ih =>
    intro hs hl
    obtain ⟨hk, ⟨L, o, hf, hn, ho, hd⟩, hr⟩ := hl
    have hL : L ∈ X.fs := hs L (by unfold frs; rw [List.filterMap_cons, hf]; exact List.mem_cons_self)
    obtain ⟨sl, e⟩ := I.base.slot L o ho (I.ok.frf L hL) hL fun z => I.ok.exfs L z hL
    exact ⟨hk, ⟨L, _, hf, hn, e, hd⟩, ih (fun b hb => hs b (by unfold frs; rw [List.filterMap_cons, hf]; exact List.mem_cons_of_mem _ hb)) hr⟩
 exact all X.outer (fun _ hb => hb) I.ok.funs
theorem Inv.stack (I : Inv X pins σ H s) : s.heap.FunFrames X.base X.stack := by
 rcases I.ok.stk with e | ⟨e, hf⟩
 ·rw [e]; exact I.funs
 ·rw [e]
  obtain ⟨m, hn, _⟩ := I.loc
  refine .cons (by rw [I.ok.kind]; decide) hf hn ?_ I.funs
  exact Heap.get?_none_of_le (Nat.le_trans I.ok.bsz I.ok.above)
theorem Inv.stkSub (I : Inv X pins σ H s) : ∀ b ∈ frs X.stack, b ∈ X.env.locals :: X.fs := fun b hb => by
 rcases I.ok.stk with e | ⟨e, hf⟩
 ·rw [e] at hb; exact List.mem_cons_of_mem _ hb
 ·rw [e] at hb
  unfold frs at hb
  rw [List.filterMap_cons, hf] at hb
  exact hb
theorem Inv.stkFree (I : Inv X pins σ H s) : ∀ b ∈ frs X.stack, H b = none := fun b hb => by
 rcases List.mem_cons.mp (I.stkSub b hb) with e | hb
 ·rw [e]; exact I.free
 ·obtain ⟨_, o, ho, _⟩ := I.ok.funs.mem hb
  exact I.base.free b o ho (I.ok.frf b hb) fun z => I.ok.exfs b z hb
theorem Inv.step {g' : Array GenState} {t' : Nat} {d' : Drawn} {ch : List Addr} (I : Inv X pins σ H s)
 (hch : ∀ b ∈ ch, (b ∈ X.ex ∨ X.s₀.heap.objs.size ≤ b) ∧ b ≠ X.env.locals ∧ (∀ x c, X.env.cells.lookup x = some c → c ≠ b) ∧ ∀ p ∈ X.pn ++ pins, p.1 ≠ b)
 (keep : ∀ b o, b ≠ X.env.locals → b ∉ X.fs → b ∉ ch → s.heap.get? b = some o → H b = none → h'.get? b = some o)
 (slot : ∀ b o, b ≠ X.env.locals → b ∈ X.fs → b ∉ ch → s.heap.get? b = some o → H b = none → ∃ sl, h'.get? b = some { o with slots := sl }) (free : ∀ b o, b ∉ ch → s.heap.get? b = some o → H b = none → H' b = none)
 (there : ∀ b o, b ∉ ch → s.heap.get? b = some o → ∃ o', h'.get? b = some o')
 (tups : ∀ b xs, H b = some (.tup xs) → H' b = some (.tup xs)) (frzs : ∀ b o u, H b = some (.frz o u) → H' b = some (.frz o u)) (tbls : ∀ b ps, H b = some (.tbl ps) → ∃ more, H' b = some (.tbl (ps ++ more)))
 (ns : ∀ m, s.heap.Ns X.env.locals m → h'.Ns X.env.locals m) (hok : HOk X.prog X.w H' h') (hg : AllBare g') :
 Inv X pins σ H' { s with heap := h', gens := g', drawn := d', toks := t' } := by
 have neL : ∀ b o, X.s₀.heap.get? b = some o → b ≠ X.env.locals := fun b o e => Nat.ne_of_lt (Nat.lt_of_lt_of_le (Heap.lt_size e) I.ok.above)
 have neC : ∀ b o, X.s₀.heap.get? b = some o → b ∉ X.ex → b ∉ ch := fun b o e hx hb => by
  rcases (hch b hb).1 with z | z
  ·exact hx z
  ·exact absurd (Nat.lt_of_lt_of_le (Heap.lt_size e) z) (Nat.lt_irrefl _)
 have cellK : ∀ x c, X.env.cells.lookup x = some c → ∀ v, s.heap.IsCell c v → h'.IsCell c v := fun x c e v ⟨o, ho, hd⟩ => by
  have nch : c ∉ ch := fun z => (hch c z).2.2.1 x c e rfl
  by_cases hc : c ∈ X.fs
  ·obtain ⟨sl, q⟩ := slot c o (I.cne x c e) hc nch ho (I.freeC x c e)
   exact ⟨_, q, hd⟩
  ·exact ⟨o, keep c o (I.cne x c e) hc nch ho (I.freeC x c e), hd⟩
 refine ⟨I.ok, I.os, hg, ⟨fun b o e n hb hx => ?_, fun b o e n hb hx => ?_, fun b o e n hx => ?_, fun b o e hx => ?_, fun b xs e => tups b xs (I.base.tups b xs e), fun b o xs e => frzs b o xs (I.base.frzs b o xs e), fun b ps e => ?_⟩, ?_, fun x c e => ?_, ?_, fun x c e => ?_, fun p hp => ?_, hok, I.len⟩
 ·exact keep b o (neL b o e) hb (neC b o e hx) (I.base.keep b o e n hb hx) (I.base.free b o e n hx)
 ·obtain ⟨sl, e1⟩ := I.base.slot b o e n hb hx
  obtain ⟨sl', e2⟩ := slot b _ (neL b o e) hb (neC b o e hx) e1 (I.base.free b o e n hx)
  exact ⟨sl', e2⟩
 ·obtain ⟨o', e1⟩ := I.base.there b o e hx
  exact free b o' (neC b o e hx) e1 (I.base.free b o e n hx)
 ·obtain ⟨o', e1⟩ := I.base.there b o e hx
  exact there b o' (neC b o e hx) e1
 ·obtain ⟨m1, e1⟩ := I.base.tbls b ps e
  obtain ⟨m2, e2⟩ := tbls b _ e1
  exact ⟨m1 ++ m2, by rw [e2, Array.append_assoc]⟩
 ·obtain ⟨m, hn, hl⟩ := I.loc
  refine ⟨m, ns m hn, fun i x v e1 e2 e3 => ?_⟩
  obtain ⟨u, r, l⟩ := hl i x v e1 e2 e3
  refine ⟨u, r, ?_⟩
  rcases l with l | ⟨k, c, e, z⟩
  ·exact .inl l
  ·exact .inr ⟨k, c, e, cellK x c e _ z⟩
 ·obtain ⟨v, z⟩ := I.cell x c e
  exact ⟨v, cellK x c e v z⟩
 ·obtain ⟨m, ⟨o, _, _, ho, _⟩, _⟩ := I.loc
  exact free _ o (fun z => (hch _ z).2.1 rfl) ho I.free
 ·obtain ⟨v, o, ho, hd⟩ := I.cell x c e
  exact free c o (fun z => (hch c z).2.2.1 x c e rfl) ho (I.freeC x c e)
 ·obtain ⟨e, n, ne, nf, d⟩ := I.pin p hp
  have nch : p.1 ∉ ch := fun z => (hch p.1 z).2.2.2 p hp rfl
  exact ⟨keep p.1 p.2 ne nf nch e n, free p.1 p.2 nch e n, ne, nf, d⟩
theorem Inv.un {t' : Nat} (I : Inv X pins σ H s) (u : Un X.fs [] H H' s.heap h') (hok : HOk X.prog X.w H' h') : Inv X pins σ H' { s with heap := h', toks := t' } := by
 obtain ⟨m, ⟨o, es, ep, ho, r⟩, _⟩ := id I.loc
 obtain ⟨sl, hL⟩ := u.any ho I.free (by simp)
 exact I.step (g' := s.gens) (d' := s.drawn) (ch := []) (fun _ z => nomatch z) (fun b o _ hb _ e n => u.keep b o e n hb (by simp)) (fun b o _ hb _ e n => u.slot b o e n hb (by simp)) (fun b o _ e n => u.free b o e n (by simp)) (fun b o _ e => u.there b o e (by simp)) u.tups u.frzs u.tbls (fun m' hm => by
  obtain ⟨o', es', ep', ho', r'⟩ := hm
  rw [ho] at ho'; cases ho'
  exact ⟨_, es', ep', hL, r'⟩) hok I.bare
theorem Inv.call {g' : Array GenState} {t' : Nat} {d' : Drawn} {ch : List Addr} (I : Inv X pins σ H s) (u : Un (frs X.stack) ch H H' s.heap h') (hok : HOk X.prog X.w H' h') (hg : AllBare g')
 (hch : ∀ b ∈ ch, (b ∈ X.ex ∨ X.s₀.heap.objs.size ≤ b) ∧ b ≠ X.env.locals ∧ (∀ x c, X.env.cells.lookup x = some c → c ≠ b) ∧ ∀ p ∈ X.pn ++ pins, p.1 ≠ b) :
 Inv X pins σ H' { s with heap := h', gens := g', drawn := d', toks := t' } := by
 obtain ⟨m, ⟨o, es, ep, ho, r⟩, _⟩ := id I.loc
 obtain ⟨sl, hL⟩ := u.any ho I.free fun z => (hch _ z).2.1 rfl
 exact I.step (ch := ch) hch (fun b o hL hb hc e n => u.keep b o e n (fun z => (List.mem_cons.mp (I.stkSub b z)).elim hL hb) hc) (fun b o _ _ hc e n => u.any e n hc) (fun b o hc e n => u.free b o e n hc) (fun b o hc e => u.there b o e hc) u.tups u.frzs u.tbls (fun m' hm => by
  obtain ⟨o', es', ep', ho', r'⟩ := hm
  rw [ho] at ho'; cases ho'
  exact ⟨_, es', ep', hL, r'⟩) hok hg
theorem Inv.turned {t' : Nat} {it : Addr} (I : Inv X pins σ H s) (k : ∀ b o, b ≠ it → s.heap.get? b = some o → h'.get? b = some o) (hn : H it = none) (hL : it ≠ X.env.locals)
 (h1 : it ∈ X.ex ∨ X.s₀.heap.objs.size ≤ it) (h2 : ∀ x c, X.env.cells.lookup x = some c → c ≠ it) (h3 : ∀ p ∈ X.pn ++ pins, p.1 ≠ it) : Inv X pins σ H { s with heap := h', toks := t' } := by
 have nit : ∀ b u, H b = some u → b ≠ it := fun b u e z => by rw [z, hn] at e; cases e
 refine I.step (g' := s.gens) (d' := s.drawn) (ch := [it]) (fun b hb => ?_) (fun b o _ _ hc e _ => k b o (fun z => hc (by simp [z])) e) (fun b o _ _ hc e _ => ⟨o.slots, k b o (fun z => hc (by simp [z])) e⟩) (fun _ _ _ _ n => n)
  (fun b o hc e => ⟨o, k b o (fun z => hc (by simp [z])) e⟩) (fun _ _ e => e) (fun _ _ _ e => e) (fun b ps e => ⟨#[], by rw [e]; simp⟩) (fun m hm => ?_) (fun b u e => ?_) I.bare
 ·have e : b = it := by simpa using hb
  subst e
  exact ⟨h1, hL, h2, h3⟩
 ·obtain ⟨o, es, ep, ho, r⟩ := hm
  exact ⟨o, es, ep, k _ o (Ne.symm hL) ho, r⟩
 ·refine (I.hok b u e).stay (fun c v hc q => k c v ?_ q) (fun _ q => q) fun _ _ q => q
  rcases hc with z | z
  ·rw [z]; exact nit b u e
  ·exact nit c _ z
theorem Inv.tok (I : Inv X pins σ H s) (t : Nat) : Inv X pins σ H { s with toks := t } := I.un (h' := s.heap) (t' := t) Un.refl I.hok
theorem Inv.kept {t' : Nat} (I : Inv X pins σ H s) (k : ∀ b u, s.heap.get? b = some u → h'.get? b = some u) : Inv X pins σ H { s with heap := h', toks := t' } := I.un (Un.kept k) (I.hok.kept k)
theorem Inv.laid {a : Addr} {o : HO} {t' : Nat} (I : Inv X pins σ H s) (k : ∀ b u, s.heap.get? b = some u → h'.get? b = some u) (hp : s.heap.objs.size ≤ a) (new : ObjOk X.prog X.w (upd H a o) h' a o) :
 Inv X pins σ (upd H a o) { s with heap := h', toks := t' } := I.un (Un.laid k hp (I.hok.fresh hp)) (I.hok.laid k hp new)
theorem Inv.write {x e : Addr} {o : HO} {t' : Nat} (I : Inv X pins σ H s) (mu : Mut (H x)) (he : e = x ∨ H e = some (.own x)) (k : ∀ b u, b ≠ e → s.heap.get? b = some u → h'.get? b = some u) (heo : ∃ u, h'.get? e = some u)
 (new : ObjOk X.prog X.w (upd H x o) h' x o) : Inv X pins σ (upd H x o) { s with heap := h', toks := t' } := I.un (Un.write mu he k heo) (I.hok.write mu he k heo new)
theorem Inv.Qcj {pins' : Q3} (I : Inv X pins σ H s) (h : ∀ p ∈ pins', s.heap.get? p.1 = some p.2 ∧ H p.1 = none ∧ p.1 ≠ X.env.locals ∧ p.1 ∉ X.fs ∧ ∀ v, p.2.data ≠ .cell v) : Inv X pins' σ H s :=
 ⟨I.ok, I.os, I.bare, I.base, I.loc, I.cell, I.free, I.freeC, fun p hp => (List.mem_append.mp hp).elim (fun z => I.pin p (List.mem_append_left _ z)) (h p), I.hok, I.len⟩
theorem Qgw {N : List Str} (hN : N.Nodup) {i j : Nat} {x : Str} (a : N[i]? = some x) (b : N[j]? = some x) : i = j := by
 obtain ⟨h1, e1⟩ := List.getElem?_eq_some_iff.mp a
 obtain ⟨h2, e2⟩ := List.getElem?_eq_some_iff.mp b
 exact (List.getElem_inj hN).mp (e1.trans e2.symm)
theorem Qhn {M : Model} {A : Around} {E : Q0} {i : Nat} {x : Str} {v : V} {u : Value} {Q : Unit → Shared → Prop} (I : Inv X pins σ H s) (hN : X.N.Nodup) (hi : X.N[i]? = some x) (hx : Loc X.env.scope x) (r : RelV v u)
 (h : ∀ s', Inv X pins (σ.set i (some v)) H s' → (∃ a, Heap.SameBut a s.heap s'.heap ∧ (a = X.env.locals ∨ X.env.cells.lookup x = some a)) → Q () s') (hf : X.fn x = true ∨ X.env.scope.names.lookup x = some .local := by first | exact .inl rfl | exact .inr rfl | assumption) : wpAny M A (storeName X.env x u) Q E s := by
 obtain ⟨m, hn, hl⟩ := id I.loc
 have hcls : (X.env.scope.kind == .class || (X.env.scope.kind == .module && X.env.locals != X.env.globals)) = false := by rw [I.ok.kind]; rfl
 have hiσ : i < σ.length := by rw [I.len]; exact (List.getElem?_eq_some_iff.mp hi).1
 have cne := I.cne
 have tracked : ∀ {a : Addr} {h' : Heap}, (∃ o, s.heap.get? a = some o ∧ H a = none) → Heap.SameBut a s.heap h' → HOk X.prog X.w H h' := fun {a h'} ha hs b ob e => by
  obtain ⟨_, _, hfree⟩ := ha
  refine (I.hok b ob e).stay (fun c w' hc q => (hs.2 c ?_).trans q) (fun _ q => q) fun _ _ q => q
  rintro rfl
  rcases hc with rfl | hc
  ·rw [hfree] at e; cases e
  ·rw [hfree] at hc; cases hc
 rcases hx with hk | hk
 ·refine wpAny_storeName_local hk hn (fun h' hn' hs => ?_) hcls
  obtain ⟨oL, _, _, hoL, _⟩ := id hn
  refine h _ ⟨I.ok, I.os, I.bare, ⟨fun b o e n hb hx => ?_, fun b o e n hb hx => ?_, I.base.free, fun b o e hx => ?_, I.base.tups, I.base.frzs, I.base.tbls⟩, ⟨_, hn', fun j y v' e1 e2 e3 => ?_⟩, fun y c e => ?_, I.free, I.freeC, fun p hp => ?_, tracked ⟨oL, hoL, I.free⟩ hs, by simpa using I.len⟩ ⟨_, hs, .inl rfl⟩
  ·exact (hs.2 b (Nat.ne_of_lt (Nat.lt_of_lt_of_le (Heap.lt_size e) I.ok.above))).trans (I.base.keep b o e n hb hx)
  ·obtain ⟨sl, e1⟩ := I.base.slot b o e n hb hx
   exact ⟨sl, (hs.2 b (Nat.ne_of_lt (Nat.lt_of_lt_of_le (Heap.lt_size e) I.ok.above))).trans e1⟩
  ·obtain ⟨o', e1⟩ := I.base.there b o e hx
   exact ⟨o', (hs.2 b (Nat.ne_of_lt (Nat.lt_of_lt_of_le (Heap.lt_size e) I.ok.above))).trans e1⟩
  ·by_cases hj : j = i
   ·subst hj
    rw [hi] at e1; cases e1
    rw [List.getElem?_set_self hiσ] at e2
    cases e2
    exact ⟨u, r, .inl ⟨hk, by simp⟩⟩
   ·rw [List.getElem?_set_ne (Ne.symm hj)] at e2
    obtain ⟨u', r', q⟩ := hl j y v' e1 e2 e3
    refine ⟨u', r', ?_⟩
    rcases q with ⟨k, e⟩ | ⟨k, c, e, z⟩
    ·refine .inl ⟨k, ?_⟩
     have : y ≠ x := fun e => hj (Qgw hN e1 (e ▸ hi))
     simp [this, e]
    ·exact .inr ⟨k, c, e, z.sameBut hs (cne y c e)⟩
  ·obtain ⟨w', z⟩ := I.cell y c e
   exact ⟨w', z.sameBut hs (cne y c e)⟩
  ·obtain ⟨e, n, ne, nf, d⟩ := I.pin p hp
   exact ⟨(hs.2 p.1 ne).trans e, n, ne, nf, d⟩
 ·have hfn : X.fn x = true := by
   rcases hf with z | z
   ·exact z
   ·rw [z] at hk; cases hk
  obtain ⟨c, hc⟩ := I.ok.has x (.inl hk)
  obtain ⟨w', z⟩ := I.cell x c hc
  refine wpAny_storeName_cell I.ok.kind hk hc z (fun h' hc' hs => ?_)
  obtain ⟨oc, hoc, hocd⟩ := id z
  refine h { s with heap := h' } ⟨I.ok, I.os, I.bare, ⟨fun b o e n hb hx => ?_, fun b o e n hb hx => ?_, I.base.free, fun b o e hx => ?_, I.base.tups, I.base.frzs, I.base.tbls⟩, ⟨m, hn.sameBut hs (Ne.symm (cne x c hc)), fun j y v' e1 e2 e3 => ?_⟩, fun y c' e => ?_, I.free, I.freeC, fun p hp => ?_, tracked ⟨oc, hoc, I.freeC x c hc⟩ hs, by simpa using I.len⟩ ⟨c, hs, .inr hc⟩
  ·exact (hs.2 b (Nat.ne_of_lt (Nat.lt_of_lt_of_le (Heap.lt_size e) (I.ok.cab x c hfn hc)))).trans (I.base.keep b o e n hb hx)
  ·obtain ⟨sl, e1⟩ := I.base.slot b o e n hb hx
   exact ⟨sl, (hs.2 b (Nat.ne_of_lt (Nat.lt_of_lt_of_le (Heap.lt_size e) (I.ok.cab x c hfn hc)))).trans e1⟩
  ·obtain ⟨o', e1⟩ := I.base.there b o e hx
   exact ⟨o', (hs.2 b (Nat.ne_of_lt (Nat.lt_of_lt_of_le (Heap.lt_size e) (I.ok.cab x c hfn hc)))).trans e1⟩
  ·by_cases hj : j = i
   ·subst hj
    rw [hi] at e1; cases e1
    rw [List.getElem?_set_self hiσ] at e2
    cases e2
    exact ⟨u, r, .inr ⟨.inl hk, c, hc, hc'⟩⟩
   ·rw [List.getElem?_set_ne (Ne.symm hj)] at e2
    obtain ⟨u', r', q⟩ := hl j y v' e1 e2 e3
    refine ⟨u', r', ?_⟩
    rcases q with q | ⟨k, c', e, z'⟩
    ·exact .inl q
    ·refine .inr ⟨k, c', e, z'.sameBut hs ?_⟩
     rintro rfl
     exact hj (Qgw hN e1 (I.ok.inj _ _ _ e hc ▸ hi))
  ·by_cases hcc : c' = c
   ·subst hcc; exact ⟨_, hc'⟩
   ·obtain ⟨w2, z2⟩ := I.cell y c' e
    exact ⟨w2, z2.sameBut hs hcc⟩
  ·obtain ⟨e, n, ne, nf, d⟩ := I.pin p hp
   refine ⟨(hs.2 p.1 ?_).trans e, n, ne, nf, d⟩
   intro q
   rw [q, hoc] at e
   have q' : oc = p.2 := Option.some.inj e
   exact d w' (by rw [← q']; exact hocd)
theorem Qgc {M : Model} {A : Around} {E : Q0} {i : Nat} {x : Str} {v : V} {u : Value} {Q : Unit → Shared → Prop} (I : Inv X pins σ H s) (hN : X.N.Nodup) (hi : X.N[i]? = some x) (hx : Loc X.env.scope x) (r : RelV v u)
 (h : ∀ s', Inv X pins (σ.set i (some v)) H s' → Q () s') (hf : X.fn x = true ∨ X.env.scope.names.lookup x = some .local := by first | exact .inl rfl | exact .inr rfl | assumption) : wpAny M A (storeName X.env x u) Q E s :=
 Qhn I hN hi hx r (fun s' I' _ => h s' I') hf
end
abbrev XK := Value → Option Addr → Hp → Prop
abbrev St := List (Option V)
abbrev VK := V → Hp → Prop
abbrev TE := St → Hp → VK → Prop
abbrev TT := St → Hp → (Bool → Hp → Prop) → Prop
abbrev TA := St → Hp → (List V → Hp → Prop) → Prop
structure Ends where
 nx : St → Hp → Prop
 rt : VK
 bk : St → Hp → Prop := fun _ _ => False
 ct : St → Hp → Prop := fun _ _ => False
abbrev TS := Ends → St → Hp → Prop
def EP (X : Cx) (pins : Q3) (σ : St) (Q : VK) (u : Value) (s' : Shared) : Prop := ∃ v H', Inv X pins σ H' s' ∧ RelV v u ∧ Q v H'
def TP (X : Cx) (pins : Q3) (σ : St) (Q : Bool → Hp → Prop) (b : Bool) (s' : Shared) : Prop := ∃ H', Inv X pins σ H' s' ∧ Q b H'
def AP (X : Cx) (pins : Q3) (σ : St) (Q : List V → Hp → Prop) (us : List Value) (s' : Shared) : Prop := ∃ vs H', Inv X pins σ H' s' ∧ Vals vs us ∧ Q vs H'
def SP (X : Cx) (pins : Q3) (D : Ends) (f : Flow) (s' : Shared) : Prop :=
 match f with
 | .next => ∃ σ' H', Inv X pins σ' H' s' ∧ D.nx σ' H'
 | .brk => ∃ σ' H', Inv X pins σ' H' s' ∧ D.bk σ' H'
 | .cont => ∃ σ' H', Inv X pins σ' H' s' ∧ D.ct σ' H'
 | .ret u => ∃ v σ' H', Inv X pins σ' H' s' ∧ RelV v u ∧ D.rt v H'
def PE (X : Cx) (e : Expr) (t : TE) : Prop :=
 ∀ (pins : Q3) (s : Shared) (σ : St) (H : Hp) (Q : VK), Inv X pins σ H s → t σ H Q → wpAny (model X.prog X.w) X.A (eval e X.env) (EP X pins σ Q) X.xe s
def PT (X : Cx) (e : Expr) (t : TT) : Prop :=
 ∀ (pins : Q3) (s : Shared) (σ : St) (H : Hp) (Q : Bool → Hp → Prop), Inv X pins σ H s → t σ H Q → wpAny (model X.prog X.w) X.A (isTrue e X.env (eval e X.env)) (TP X pins σ Q) X.xe s
def PW (X : Cx) (e : Expr) (t : TT) : Prop :=
 ∀ (whole : Sem Value) (pins : Q3) (s : Shared) (σ : St) (H : Hp) (Q : Bool → Hp → Prop), Inv X pins σ H s → t σ H Q → wpAny (model X.prog X.w) X.A (isTrue e X.env whole) (TP X pins σ Q) X.xe s
theorem PW.pt {X : Cx} {e : Expr} {t : TT} (h : PW X e t) : PT X e t := h _
def PA (X : Cx) (es : List Expr) (t : TA) : Prop :=
 ∀ (pos : Pos) (pins : Q3) (s : Shared) (σ : St) (H : Hp) (Q : List V → Hp → Prop), Inv X pins σ H s → t σ H Q → wpAny (model X.prog X.w) X.A (spliced (backTo pos (starEach es X.env))) (AP X pins σ Q) X.xe s
def PS (X : Cx) (st : Stmt) (t : TS) : Prop :=
 ∀ (pins : Q3) (s : Shared) (σ : St) (H : Hp) (D : Ends), Inv X pins σ H s → t D σ H → wpAny (model X.prog X.w) X.A (exec st X.env) (SP X pins D) X.xe s
def PSs (X : Cx) (st : List Stmt) (t : TS) : Prop :=
 ∀ (pins : Q3) (s : Shared) (σ : St) (H : Hp) (D : Ends), Inv X pins σ H s → t D σ H → wpAny (model X.prog X.w) X.A (execs st X.env) (SP X pins D) X.xe s
theorem thn {α : Type} {t : Sem α} {Q Q' : α → Shared → Prop} {M : Model} {A : Around} {E : Q0} {s : Shared} (h : wpAny M A t Q E s) (hQ : ∀ a s, Q a s → Q' a s) : wpAny M A t Q' E s := wpAny_mono h hQ fun _ _ x => x
end L2
namespace L2
open PySem PySem.Spec PyProof.Rows
section
variable {X : Cx}
def tVar (i : Nat) : TE := fun σ H Q => ∃ v, σ[i]? = some (some v) ∧ Q v H
def tC (v : V) : TE := fun _ H Q => Q v H
theorem pe_var {i : Nat} {x : Str} {pos : Pos} (hN : X.N[i]? = some x) (hv : Vis X.env.scope x) (hd : (x == ("__debug__" : Str)) = false := by decide) (hcd : (x == ("__classdict__" : Str)) = false := by decide) : PE X (.Name x pos) (tVar i) := by
 intro pins s σ H Q I h
 obtain ⟨v, e, h⟩ := h
 obtain ⟨m, hn, hl⟩ := I.loc
 obtain ⟨u, r, l⟩ := hl i x v hN e hv
 have fin : EP X pins σ Q u s := ⟨v, H, I, r, h⟩
 rcases l with ⟨hk, hm⟩ | ⟨hk, c, hc, hcell⟩
 ·exact wpAny_Name (wpAny_loadName_local I.ok.kind hk hn hm fin) hd
 ·rcases hk with hk | hk
  ·exact wpAny_Name (wpAny_loadName_cell I.ok.kind hk hc hcell fin) hd
  ·exact wpAny_Name (wpAny_loadName_free I.ok.kind hk hc hcell fin hcd) hd
theorem Qaf {i j pos} : PE X (.Constant (.int i) j pos) (tC (.int i)) := fun _ _ _ H _ I h => wpAny_Constant_int ⟨.int i, H, I.tok _, ⟨_, rfl⟩, h⟩
theorem Qc3 {b j pos} : PE X (.Constant (.bool b) j pos) (tC (.bl b)) := fun _ _ _ H _ I h => Constant_bool ⟨.bl b, H, I, rfl, h⟩
theorem Qkx {j pos} : PE X (.Constant .none j pos) (tC .non) := fun _ _ _ H _ I h => Constant_none ⟨.non, H, I, rfl, h⟩
theorem Qcf {x j pos} : PE X (.Constant (.str x) j pos) (tC (.str x)) := fun _ _ _ H _ I h => Calls.Constant_str ⟨.str x, H, I.tok _, ⟨_, rfl⟩, h⟩
def Gl (X : Cx) (x : Str) : Prop := X.env.kindOf x = some .globalImplicit
theorem Ql8 {E : Q0} {pins : Q3} {s : Shared} {σ : St} {H : Hp} {x : Str} {u : Value} {pos : Pos} {Q : Q0} (I : Inv X pins σ H s) (hg : Gl X x) (hm : X.mg x = some u) (h : Q u s)
 (hd : (x == ("__debug__" : Str)) = false := by decide) : wpAny (model X.prog X.w) X.A (eval (.Name x pos) X.env) Q E s :=
 Calls.Name_function_global I.ok.kind hg (Calls.loadGlobal_global (by rw [I.ok.glob]; exact I.mod.glob.keeps I.bk) hm h) hd
theorem Qdj {E : Q0} {pins : Q3} {s : Shared} {σ : St} {H : Hp} {x : Str} {u : Value} {pos : Pos} {Q : Q0} (I : Inv X pins σ H s) (hg : Gl X x) (hm : X.mg x = none) (hv : bootBuiltins x = some u) (h : Q u s)
 (hn : x ≠ "__name__" := by decide) (hd : (x == ("__debug__" : Str)) = false := by decide) : wpAny (model X.prog X.w) X.A (eval (.Name x pos) X.env) Q E s := by
 obtain ⟨mb, h1, h2⟩ := I.mod.blt
 exact Calls.Name_function_global I.ok.kind hg (Calls.loadGlobal_builtin (by rw [I.ok.glob]; exact I.mod.glob.keeps I.bk) hm (by rw [I.ok.blt]; exact h1.keeps I.bk) ((h2 x hn).trans hv) h) hd
theorem Qfr {x : Str} {v : V} {u : Value} {pos : Pos} (hg : Gl X x) (hm : X.mg x = none) (hv : bootBuiltins x = some u) (r : RelV v u) (hn : x ≠ "__name__" := by decide) (hd : (x == ("__debug__" : Str)) = false := by decide) : PE X (.Name x pos) (tC v) :=
 fun _ _ _ H _ I h => Qdj I hg hm hv ⟨v, H, I, r, h⟩ hn hd
variable {a b : Expr} {ta tb : TE} {pos : Pos}
def PC (X : Cx) (op : CmpOp) (a b : Expr) (t : TE) : Prop :=
 ∀ (pins : Q3) (s : Shared) (σ : St) (H : Hp) (Q : VK), Inv X pins σ H s → t σ H Q →
   wpAny (model X.prog X.w) X.A (eval a X.env) (fun v s₁ => wpAny (model X.prog X.w) X.A (eval b X.env) (fun u s₂ => wpAny (model X.prog X.w) X.A (compareOp op v u) (EP X pins σ Q) X.xe s₂) X.xe s₁) X.xe s
def tB (t : TE) : TT := fun σ H Q => t σ H fun x H1 => ∃ c, x = .bl c ∧ Q c H1
theorem pe_cmp {op : CmpOp} {t : TE} (h : PC X op a b t) (h1 : behindInMarks op b = false := by first | exact nobehind _ (by decide) (by decide) | rfl) : PE X (.Compare a [op] [b] pos) t := fun pins s σ H Q I hw => wpAny_Compare1 (h pins s σ H Q I hw) h1
theorem Qkw {op : CmpOp} {t : TE} (h : PC X op a b t) (h1 : behindInMarks op b = false := by first | exact nobehind _ (by decide) (by decide) | rfl) : PT X (.Compare a [op] [b] pos) (tB t) := by
 intro pins s σ H Q I hw
 refine wpAny_isTrue_Compare1 (thn (h pins s σ H _ I hw) fun v s1 h1 => thn h1 fun u s2 h2 => thn h2 fun c s3 ⟨x, H1, I1, r1, q1⟩ => ?_) h1
 obtain ⟨d, rfl, q⟩ := q1
 cases r1
 exact wpAny_truthy_bool ⟨H1, I1, q⟩
theorem Qdh {e : Expr} {t : TE} (h : PE X e t) (he : ∀ whole, isTrue e X.env whole = (do let v ← whole; standAt e.pos; holding [v] (truthy v)) := by intro _; rfl) : PT X e (tB t) := by
 intro pins s σ H Q I hw
 refine isTrue_plain (thn (h pins s σ H _ I hw) fun v s1 ⟨x, H1, I1, r1, q1⟩ => ?_) (he _)
 obtain ⟨d, rfl, q⟩ := q1
 cases r1
 exact wpAny_truthy_bool ⟨H1, I1, q⟩
variable {tA tB' : TT} {rest : List Expr}
def tAnd (t u : TT) : TT := fun σ H Q => t σ H fun c H1 => if c = true then u σ H1 Q else Q false H1
def tOr (t u : TT) : TT := fun σ H Q => t σ H fun c H1 => if c = true then Q true H1 else u σ H1 Q
def tNot (t : TT) : TT := fun σ H Q => t σ H fun c H1 => Q (!c) H1
theorem Qel (ha : PT X a tA) : PW X (.BoolOp .And [a] pos) tA := by
 intro wh pins s σ H Q I h
 refine isTrue_and (thn (ha pins s σ H Q I h) fun c s1 e => ?_)
 cases c with
 | true => exact isTrue_and_nil e
 | false => exact e
theorem Qe1 (ha : PT X a tA) : PW X (.BoolOp .Or [a] pos) tA := by
 intro wh pins s σ H Q I h
 refine isTrue_or (thn (ha pins s σ H Q I h) fun c s1 e => ?_)
 cases c with
 | false => exact isTrue_or_nil e
 | true => exact e
theorem Qgm (ha : PT X a tA) (hb : PW X (.BoolOp .And (b :: rest) pos) tB') : PW X (.BoolOp .And (a :: b :: rest) pos) (tAnd tA tB') := by
 intro wh pins s σ H Q I h
 refine isTrue_and (thn (ha pins s σ H _ I h) fun c s1 ⟨H1, I1, q1⟩ => ?_)
 cases c with
 | true => exact hb wh pins s1 σ H1 Q I1 q1
 | false => exact ⟨H1, I1, q1⟩
theorem Qfq (ha : PT X a tA) (hb : PW X (.BoolOp .Or (b :: rest) pos) tB') : PW X (.BoolOp .Or (a :: b :: rest) pos) (tOr tA tB') := by
 intro wh pins s σ H Q I h
 refine isTrue_or (thn (ha pins s σ H _ I h) fun c s1 ⟨H1, I1, q1⟩ => ?_)
 cases c with
 | true => exact ⟨H1, I1, q1⟩
 | false => exact hb wh pins s1 σ H1 Q I1 q1
theorem Qgn (ha : PT X a tA) : PT X (.UnaryOp .Not a pos) (tNot tA) := by
 intro pins s σ H Q I h
 exact isTrue_not (ha pins s σ H (fun c H1 => Q (!c) H1) I h)
def tAndV (ta tb : TE) : TE := fun σ H Q => ta σ H fun x H1 => ∃ c, x = .bl c ∧ if c = true then tb σ H1 Q else Q (.bl false) H1
def tOrV (ta tb : TE) : TE := fun σ H Q => ta σ H fun x H1 => ∃ c, x = .bl c ∧ if c = true then Q (.bl true) H1 else tb σ H1 Q
def tNotV (ta : TE) : TE := fun σ H Q => ta σ H fun x H1 => ∃ c, x = .bl c ∧ Q (.bl (!c)) H1
theorem Qhz {op} {t : TE} (h : PE X a t) : PE X (.BoolOp op [a] pos) t := fun pins s σ H Q I hw => BoolOp_one (h pins s σ H Q I hw)
theorem Qky (ha : PE X a ta) (hb : PE X (.BoolOp .And (b :: rest) pos) tb) : PE X (.BoolOp .And (a :: b :: rest) pos) (tAndV ta tb) := by
 intro pins s σ H Q I h
 refine BoolOp_and (thn (ha pins s σ H _ I h) fun v s1 ⟨x, H1, I1, r1, q1⟩ => ?_)
 obtain ⟨c, rfl, q1⟩ := q1
 cases r1
 refine wpAny_truthy_bool ?_
 cases c with
 | true => exact hb pins s1 σ H1 Q I1 q1
 | false => exact ⟨.bl false, H1, I1, rfl, q1⟩
theorem pe_or (ha : PE X a ta) (hb : PE X (.BoolOp .Or (b :: rest) pos) tb) : PE X (.BoolOp .Or (a :: b :: rest) pos) (tOrV ta tb) := by
 intro pins s σ H Q I h
 refine BoolOp_or (thn (ha pins s σ H _ I h) fun v s1 ⟨x, H1, I1, r1, q1⟩ => ?_)
 obtain ⟨c, rfl, q1⟩ := q1
 cases r1
 refine wpAny_truthy_bool ?_
 cases c with
 | false => exact hb pins s1 σ H1 Q I1 q1
 | true => exact ⟨.bl true, H1, I1, rfl, q1⟩
theorem pe_not (ha : PE X a ta) : PE X (.UnaryOp .Not a pos) (tNotV ta) := by
 intro pins s σ H Q I h
 refine UnaryOp_ (thn (ha pins s σ H _ I h) fun v s1 ⟨x, H1, I1, r1, q1⟩ => ?_)
 obtain ⟨c, rfl, q1⟩ := q1
 cases r1
 exact not_of (wpAny_truthy_bool ⟨.bl (!c), H1, I1, rfl, q1⟩)
def tIf (t : TT) (ta tb : TE) : TE := fun σ H Q => t σ H fun c H1 => if c = true then ta σ H1 Q else tb σ H1 Q
theorem Qgr {c : Expr} (hc : PT X c tA) (ha : PE X a ta) (hb : PE X b tb) : PE X (.IfExp c a b pos) (tIf tA ta tb) := by
 intro pins s σ H Q I h
 refine wpAny_IfExp (thn (hc pins s σ H _ I h) fun d s1 ⟨H1, I1, q1⟩ => ?_)
 cases d with
 | true => exact ha pins s1 σ H1 Q I1 q1
 | false => exact hb pins s1 σ H1 Q I1 q1
end
end L2
namespace L2
open PySem PySem.Spec PyProof.Rows
def SqL (K : Q4) (H : Hp) (a : Addr) (xs : List V) : Prop :=
 Rd H a (.lst xs) ∨
  ∃ (o : Obj) (its : Array Value) (n : Nat), K.lookup a = some o ∧ o.cls = .type "list" ∧ o.dict = none ∧ o.data = .seq its n ∧ its.size ≤ sizeLine ∧ Vals xs its.toList
def SqT (K : Q4) (H : Hp) (a : Addr) (xs : List V) : Prop :=
 Rd H a (.tup xs) ∨
  ∃ (o : Obj) (its : Array Value) (n : Nat), K.lookup a = some o ∧ o.cls = .type "tuple" ∧ o.data = .seq its n ∧ its.size ≤ sizeLine ∧ Vals xs its.toList
def absV : Value → Option V
 | .none => some .non
 | .bool b => some (.bl b)
 | .int i _ => some (.int i)
 | .str x _ => some (.str x)
 | .bytes b _ => some (.byt b)
 | .float b _ => some (.flt b)
 | .ref a => some (.ref a)
 | .type n => some (.ty n)
 | _ => none
theorem RelV.abs {x : V} {u : Value} (r : RelV x u) : absV u = some x := by
 cases x with
 | non => cases r; rfl
 | bl _ => cases r; rfl
 | int _ => obtain ⟨t, rfl⟩ := r; rfl
 | str _ => obtain ⟨t, rfl⟩ := r; rfl
 | byt _ => obtain ⟨t, rfl⟩ := r; rfl
 | flt _ => obtain ⟨t, rfl⟩ := r; rfl
 | ref _ => cases r; rfl
 | ty _ => cases r; rfl
theorem RelV.inj {x y : V} {u : Value} (r : RelV x u) (q : RelV y u) : x = y := Option.some.inj (r.abs.symm.trans q.abs)
theorem Vals.inj : ∀ {xs ys : List V} {us : List Value}, Vals xs us → Vals ys us → xs = ys
 | _, _, _, .nil, .nil => rfl
 | _, _, _, .cons r t, .cons r' t' => by rw [r.inj r', Vals.inj t t']
section
variable {X : Cx} {pins : Q3} {σ : St} {H : Hp} {s : Shared} {a : Addr} {xs ys : List V}
theorem SqL.of {K : Q4} (h : H a = some (.lst xs)) : SqL K H a xs := .inl (.inl h)
theorem SqT.of {K : Q4} (h : H a = some (.tup xs)) : SqT K H a xs := .inl (.inl h)
theorem Inv.list (I : Inv X pins σ H s) (h : SqL X.K H a xs) : ∃ its : List Value, Vals xs its ∧ PlainL s.heap a its.toArray ∧ xs.length ≤ sizeLine := by
 rcases h with h | ⟨o, its, n, hk, hc, hd, hs, hz, r⟩
 ·obtain ⟨z, its, n, r, e⟩ := h.ok I.hok
  exact ⟨its, r, ⟨_, n, e, rfl, rfl, rfl⟩, z⟩
 ·refine ⟨its.toList, r, ⟨o, n, I.kIn a o hk, hc, hd, by simpa using hs⟩, ?_⟩
  have e := r.length
  simp only [Array.length_toList] at e
  omega
theorem Inv.tuple (I : Inv X pins σ H s) (h : SqT X.K H a xs) : ∃ its : List Value, Vals xs its ∧ IsTup s.heap a its.toArray ∧ xs.length ≤ sizeLine := by
 rcases h with h | ⟨o, its, n, hk, hc, hs, hz, r⟩
 ·obtain ⟨z, its, r, p⟩ := h.ok I.hok
  exact ⟨its, r, p, z⟩
 ·refine ⟨its.toList, r, ⟨o, I.kIn a o hk, hc, n, by simpa using hs⟩, ?_⟩
  have e := r.length
  simp only [Array.length_toList] at e
  omega
theorem Inv.Qdl (I : Inv X pins σ H s) (h : SqL X.K H a xs) (h' : SqL X.K H a ys) : xs = ys := by
 obtain ⟨its, r, ⟨o, n, e, _, _, d⟩, _⟩ := I.list h
 obtain ⟨its', r', ⟨o', n', e', _, _, d'⟩, _⟩ := I.list h'
 rw [e] at e'; cases e'
 rw [d] at d'
 injection d' with d1 _
 have : its = its' := by simpa using congrArg Array.toList d1
 subst this
 exact r.inj r'
end
abbrev Cx.wish (X : Cx) (E : Q0) : Cx := { X with xe := E }
abbrev Cx.nox (X : Cx) : Cx := X.wish fun _ _ => False
theorem Cx.Ok.wish {X : Cx} (ok : X.Ok) (E : Q0) : (X.wish E).Ok :=
 ⟨ok.mod, ok.kind, ok.glob, ok.blt, ok.above, ok.inj, ok.has, ok.cab, ok.hd, ok.frames, ok.stk, ok.exf, ok.bs, ok.bsz, ok.noex, ok.exfs, ok.funs, ok.frf⟩
theorem Cx.Ok.unwish {X : Cx} {E : Q0} (ok : (X.wish E).Ok) : X.Ok :=
 ⟨ok.mod, ok.kind, ok.glob, ok.blt, ok.above, ok.inj, ok.has, ok.cab, ok.hd, ok.frames, ok.stk, ok.exf, ok.bs, ok.bsz, ok.noex, ok.exfs, ok.funs, ok.frf⟩
section
variable {X : Cx} {pins : Q3} {σ : St} {H : Hp} {s : Shared} {E : Q0}
theorem Inv.wish (I : Inv X pins σ H s) (E : Q0) : Inv (X.wish E) pins σ H s := ⟨I.ok.wish E, I.os, I.bare, I.base, I.loc, I.cell, I.free, I.freeC, I.pin, I.hok, I.len⟩
theorem Inv.unwish (I : Inv (X.wish E) pins σ H s) : Inv X pins σ H s := ⟨I.ok.unwish, I.os, I.bare, I.base, I.loc, I.cell, I.free, I.freeC, I.pin, I.hok, I.len⟩
theorem SP.unwish {D : Ends} {f : Flow} {s' : Shared} (h : SP (X.wish E) pins D f s') : SP X pins D f s' := by
 cases f with
 | next => obtain ⟨σ', H', I, q⟩ := h; exact ⟨σ', H', I.unwish, q⟩
 | brk => obtain ⟨σ', H', I, q⟩ := h; exact ⟨σ', H', I.unwish, q⟩
 | cont => obtain ⟨σ', H', I, q⟩ := h; exact ⟨σ', H', I.unwish, q⟩
 | ret u => obtain ⟨v, σ', H', I, r, q⟩ := h; exact ⟨v, σ', H', I.unwish, r, q⟩
theorem PSs.nox {st : List Stmt} {t : TS} (h : PSs X.nox st t) : PSs X st t := fun pins s σ H D I hw =>
 wpAny_mono (h pins s σ H D (I.wish _) hw) (fun _ _ q => q.unwish) fun _ _ z => False.elim z
end
section
variable {X : Cx} {st : Stmt} {rest : List Stmt} {t u : TS} {e : Expr} {te : TE} {pos : Pos}
def tNext : TS := fun D σ H => D.nx σ H
def tSeq (t u : TS) : TS := fun D σ H => t { D with nx := u D } σ H
theorem Qay : PSs X [] tNext := fun _ _ σ H _ I h => wpAny_execs_nil ⟨σ, H, I, h⟩
theorem Qae (h1 : PS X st t) (h2 : PSs X rest u) : PSs X (st :: rest) (tSeq t u) := by
 intro pins s σ H D I h
 refine wpAny_execs_cons (thn (h1 pins s σ H { D with nx := u D } I h) fun f s1 q => ?_)
 cases f with
 | next =>
   obtain ⟨σ', H', I', q⟩ := q
   exact h2 pins s1 σ' H' D I' q
 | ret v => exact q
 | brk => exact q
 | cont => exact q
theorem Qag (h1 : PS X st t) : PSs X [st] t := by
 intro pins s σ H D I h
 refine wpAny_execs_cons (thn (h1 pins s σ H D I h) fun f s1 q => ?_)
 cases f with
 | next => exact wpAny_execs_nil q
 | ret v => exact q
 | brk => exact q
 | cont => exact q
theorem Inv.quiet {pins : Q3} {σ : St} {H : Hp} {s : Shared} (I : Inv X pins σ H s) : interactive X.env = false := by simp [interactive, I.ok.kind]
def tDrop (te : TE) : TS := fun D σ H => te σ H fun _ H1 => D.nx σ H1
theorem Qby (he : PE X e te) (hs : swapsWith e none pos.line X.env = pure false := by rfl) : PS X (.Expr e pos) (tDrop te) := by
 intro pins s σ H D I h
 exact wpAny_Expr_any (thn (he pins s σ H _ I h) fun v s1 ⟨x, H1, I1, r1, q1⟩ => ⟨σ, H1, I1, q1⟩) I.quiet hs
def tRet (te : TE) : TS := fun D σ H => te σ H D.rt
theorem Qat (he : PE X e te) : PS X (.Return (some e) pos) (tRet te) := by
 intro pins s σ H D I h
 exact wpAny_Return_some (thn (he pins s σ H _ I h) fun v s1 ⟨x, H1, I1, r1, q1⟩ => ⟨x, σ, H1, I1, r1, q1⟩)
def tIfS (c : TT) (t u : TS) : TS := fun D σ H => c σ H fun b H1 => if b = true then t D σ H1 else u D σ H1
theorem Qbq {c : Expr} {a b : List Stmt} {tc : TT} (hc : PT X c tc) (ha : PSs X a t) (hb : PSs X b u) : PS X (.If c a b pos) (tIfS tc t u) := by
 intro pins s σ H D I h
 refine wpAny_If (thn (hc pins s σ H _ I h) fun d s1 ⟨H1, I1, q1⟩ => ?_)
 cases d with
 | true => exact ha pins s1 σ H1 D I1 q1
 | false => exact hb pins s1 σ H1 D I1 q1
def tNever : TS := fun _ _ _ => False
theorem Qcp : PS X st tNever := fun _ _ _ _ _ _ h => h.elim
end
abbrev TG := V → St → Hp → (St → Hp → Prop) → Prop
abbrev TGs := List V → St → Hp → (St → Hp → Prop) → Prop
def PG (X : Cx) (target : Expr) (t : TG) : Prop :=
 ∀ (pins : Q3) (s : Shared) (σ : St) (H : Hp) (v : V) (u : Value) (Q : St → Hp → Prop), Inv X pins σ H s → RelV v u → t v σ H Q →
   wpAny (model X.prog X.w) X.A (assign target X.env u) (fun _ s' => ∃ σ' H', Inv X pins σ' H' s' ∧ Q σ' H') X.xe s
def PGs (X : Cx) (ts : List Expr) (t : TGs) : Prop :=
 ∀ (pins : Q3) (s : Shared) (σ : St) (H : Hp) (vs : List V) (us : List Value) (Q : St → Hp → Prop), Inv X pins σ H s → Vals vs us → t vs σ H Q →
   wpAny (model X.prog X.w) X.A (assignInOrder ((assignEach ts X.env).map (·.2)) us) (fun _ s' => ∃ σ' H', Inv X pins σ' H' s' ∧ Q σ' H') X.xe s
abbrev TSet := V → V → V → Hp → (Hp → Prop) → Prop
def PSet (X : Cx) (t : TSet) : Prop :=
 ∀ (pins : Q3) (s : Shared) (σ : St) (H : Hp) (o i v : V) (ov iv u : Value) (Q : Hp → Prop), Inv X pins σ H s → RelV o ov → RelV i iv → RelV v u → t o i v H Q →
   wpAny (model X.prog X.w) X.A (setItem ov iv u) (fun _ s' => ∃ H', Inv X pins σ H' s' ∧ Q H') X.xe s
section
variable {X : Cx} {pos : Pos}
def gName (i : Nat) : TG := fun v σ H Q => Q (σ.set i (some v)) H
theorem Qau {i : Nat} {x : Str} (hN : X.N.Nodup) (hi : X.N[i]? = some x) (hx : Loc X.env.scope x) (hf : X.fn x = true ∨ X.env.scope.names.lookup x = some .local := by first | exact .inl rfl | exact .inr rfl | assumption) : PG X (.Name x pos) (gName i) := by
 intro pins s σ H v u Q I r h
 exact wpAny_assign_Name (Qgc I hN hi hx r (fun s' I' => ⟨_, H, I', h⟩) hf)
def gNil : TGs := fun vs σ H Q => vs = [] ∧ Q σ H
def gCons (t : TG) (u : TGs) : TGs := fun vs σ H Q => ∃ v r, vs = v :: r ∧ t v σ H fun σ' H' => u r σ' H' Q
theorem Qcb : PGs X [] gNil := by
 intro pins s σ H vs us Q I r h
 obtain ⟨e, h⟩ := h
 subst e
 cases r
 exact assignInOrder_nil ⟨σ, H, I, h⟩
theorem Qa2 {e : Expr} {es : List Expr} {t : TG} {u : TGs} (h1 : PG X e t) (h2 : PGs X es u)
 (hs : (assignEach (e :: es) X.env).map (·.2) = assign e X.env :: (assignEach es X.env).map (·.2) := by rfl) : PGs X (e :: es) (gCons t u) := by
 intro pins s σ H vs us Q I r h
 obtain ⟨v, vr, e1, h⟩ := h
 subst e1
 cases r with
 | cons r rr =>
   rw [hs]
   refine assignInOrder_cons (thn (h1 pins s σ H _ _ _ I r h) fun _ s1 ⟨σ1, H1, I1, q1⟩ => ?_)
   exact h2 pins s1 σ1 H1 _ _ Q I1 rr q1
def gTup (K : Q4) (n : Nat) (t : TGs) : TG := fun v σ H Q => ∃ a xs, v = .ref a ∧ SqT K H a xs ∧ xs.length = n ∧ t xs σ H Q
theorem Qc6 {es : List Expr} {k : Nat} {t : TGs} {n : Nat} (hc : X.calm = true) (h : PGs X es t)
 (hn : (assignEach es X.env).length = n := by rfl) (hst : (assignEach es X.env).findIdx? (·.1) = none := by rfl) : PG X (.Tuple es k pos) (gTup X.K n t) := by
 intro pins s σ H v u Q I r hw
 obtain ⟨a, xs, e1, hq, hl, hw⟩ := hw
 subst e1
 cases r
 obtain ⟨its, rv, ht, hz⟩ := I.tuple hq
 refine assign_Tuple_tuple (I.ok.hd hc) ht (by simp [hn, ← hl, rv.length]) hst fun h' hx => ?_
 have I1 : Inv X pins σ H { s with heap := h' } := I.kept (t' := s.toks) fun b o e => hx b o (Nat.ne_of_lt (Heap.lt_size e)) e
 exact h pins _ σ H xs _ Q I1 (by simpa using rv) hw
def gSub (to ti : TE) (t : TSet) : TG := fun v σ H Q => to σ H fun o H1 => ti σ H1 fun i H2 => t o i v H2 fun H3 => Q σ H3
theorem pg_sub {o i : Expr} {to ti : TE} {t : TSet} (ho : PE X o to) (hi : PE X i ti) (hs : PSet X t)
 (ha : ∀ v, assign (.Subscript o i pos) X.env v = (do
  let ov ← holding [v] (eval o X.env)
  let iv ← holding [v, ov] (eval i X.env)
  standAt pos
  holding [v, ov, iv] (setItem ov iv v)
  release [v, ov, iv] []) := by intro _; rfl) : PG X (.Subscript o i pos) (gSub to ti t) := by
 intro pins s σ H v u Q I r h
 rw [ha]
 refine wpAny_bind (wpAny_holding (thn (ho pins s σ H _ I h) fun ov s1 ⟨x, H1, I1, r1, q1⟩ => ?_))
 refine wpAny_bind (wpAny_holding (thn (hi pins s1 σ H1 _ I1 q1) fun iv s2 ⟨y, H2, I2, r2, q2⟩ => ?_))
 refine wpAny_bind (wpAny_standAt (wpAny_bind (wpAny_holding (thn (hs pins s2 σ H2 x y v ov iv u _ I2 r1 r2 r q2) fun _ s3 ⟨H3, I3, q3⟩ => ?_))))
 exact wpAny_release ⟨σ, H3, I3, q3⟩
def tAsg (te : TE) (g : TG) : TS := fun D σ H => te σ H fun x H1 => g x σ H1 D.nx
theorem ps_asg {tg e : Expr} {te : TE} {g : TG} (he : PE X e te) (hg : PG X tg g) (hs : swapsWithSole [tg] e pos.line X.env = pure false := by rfl) (hw : swappedStores [tg] e X.env = pure none := by rfl)
 (h1 : (assignEach [tg] X.env).map (·.2) = [assign tg X.env] := by rfl) : PS X (.Assign [tg] e pos) (tAsg te g) := by
 intro pins s σ H D I h
 refine wpAny_Assign_stores (thn (he pins s σ H _ I h) fun v s1 ⟨x, H1, I1, r1, q1⟩ => ?_) hs hw
 rw [h1]
 exact thn (hg pins s1 σ H1 x v _ I1 r1 q1) fun _ s2 q => q
theorem Qak {i : Nat} {x : Str} {e : Expr} {te : TE} {pos' : Pos} (hN : X.N.Nodup) (hi : X.N[i]? = some x) (hx : Loc X.env.scope x) (he : PE X e te) (hs : swapsWith e (some (.Name x pos')) pos.line X.env = pure false := by rfl) (hf : X.fn x = true ∨ X.env.scope.names.lookup x = some .local := by first | exact .inl rfl | exact .inr rfl | assumption) :
 PS X (.Assign [.Name x pos'] e pos) (tAsg te (gName i)) := by
 intro pins s σ H D I h
 refine wpAny_Assign_Name (thn (he pins s σ H _ I h) fun v s1 ⟨y, H1, I1, r1, q1⟩ => ?_) hs
 exact Qgc I1 hN hi hx r1 (fun s2 I2 => ⟨_, H1, I2, q1⟩) hf
end
section
variable {X : Cx} {pos : Pos}
def tWhile (c : TT) (tb : TS) : TS := fun D σ H => ∃ W : Nat → St → Hp → Prop, (∃ m, W m σ H) ∧ ∀ m σ H, W m σ H →
 c σ H fun b H1 => if b = true then ∃ N : St → Hp → Prop, (∀ σ' H', N σ' H' → ∃ m', m' < m ∧ W m' σ' H') ∧ tb { D with nx := N, ct := N, bk := D.nx } σ H1 else D.nx σ H1
theorem Qgo {c : Expr} {body : List Stmt} {tc : TT} {tb : TS} (hp : PassesOwn (model X.prog X.w) X.A X.env X.xe) (hc : PT X c tc) (hb : PSs X body tb) : PS X (.While c body [] pos) (tWhile tc tb) := by
 intro pins s σ H D I h
 obtain ⟨W, ⟨m0, w0⟩, turn⟩ := h
 refine wpAny_While (codeAny_whileLoop (fun n s' => ∃ σ' H', Inv X pins σ' H' s' ∧ W n σ' H') ?_ m0 ⟨σ, H, I, w0⟩)
 rintro n s1 ⟨σ1, H1, I1, w1⟩
 refine wpAny_passesOwn hp (thn (hc pins s1 σ1 H1 _ I1 (turn n σ1 H1 w1)) fun b s2 ⟨H2, I2, q2⟩ => ?_)
 cases b with
 | true =>
   obtain ⟨N, hN, q2⟩ := q2
   rw [if_pos rfl]
   refine wpAny_passesOwn hp (thn (hb pins s2 σ1 H2 _ I2 q2) fun f s3 q3 => ?_)
   cases f with
   | next =>
     obtain ⟨σ3, H3, I3, n3⟩ := q3
     obtain ⟨m', hm, w3⟩ := hN σ3 H3 n3
     exact ⟨m', hm, σ3, H3, I3, w3⟩
   | cont =>
     obtain ⟨σ3, H3, I3, n3⟩ := q3
     obtain ⟨m', hm, w3⟩ := hN σ3 H3 n3
     exact ⟨m', hm, σ3, H3, I3, w3⟩
   | brk => exact q3
   | ret v => exact q3
 | false =>
   rw [if_neg Bool.false_ne_true]
   exact wpAny_execs_nil ⟨σ1, H2, I2, q2⟩
end
structure It where
 go : Nat → Hp → Prop
 yld : Nat → Hp → V → Hp → Prop
 stop : Nat → Hp → Prop
def FpOk (X : Cx) (pins : Q3) (H : Hp) (b : Addr) : Prop :=
 H b = none ∧ b ≠ X.env.locals ∧ b ∉ X.fs ∧ (b ∈ X.ex ∨ X.s₀.heap.objs.size ≤ b) ∧ (∀ x c, X.env.cells.lookup x = some c → c ≠ b) ∧ ∀ p ∈ X.pn ++ pins, p.1 ≠ b
theorem Inv.fpOk {X : Cx} {pins : Q3} {σ : St} {H H' : Hp} {s : Shared} {b : Addr} (I : Inv X pins σ H s) (hb : s.heap.objs.size ≤ b) (hn : H' b = none) : FpOk X pins H' b := by
 refine ⟨hn, Nat.ne_of_gt (Nat.lt_of_lt_of_le I.lt hb), I.nofs hb, .inr (Nat.le_trans I.sz hb), fun x c e z => ?_, fun p hp z => ?_⟩
 ·obtain ⟨v, q⟩ := I.cell x c e
  exact absurd (Nat.lt_of_lt_of_le q.lt (by rw [z]; exact hb)) (Nat.lt_irrefl _)
 ·exact absurd (Nat.lt_of_lt_of_le (Heap.lt_size (I.pin p hp).1) (by rw [z]; exact hb)) (Nat.lt_irrefl _)
structure Turn (P : Program) (w : World) (K : Q4) (tg : Expr) (J : It) (fp : List Addr) (it : Addr) (tn : Nat → Heap → Prop) : Prop where
 mem : it ∈ fp
 obj : ∀ i h, tn i h → ∀ b ∈ fp, ∃ o, h.get? b = some o ∧ ∀ v, o.data ≠ .cell v
 keep : ∀ i h h', tn i h → (∀ b ∈ fp, ∀ o, h.get? b = some o → h'.get? b = some o) → tn i h'
 item : ∀ (X : Cx), X.prog = P → X.w = w → X.K = K → X.calm = true → ∀ (i : Nat) (pins : Q3) (s : Shared) (σ : St) (H : Hp) (E : Q0), Inv X pins σ H s → (∀ b ∈ fp, FpOk X pins H b) → tn i s.heap → J.go i H →
  wpAny (model P w) X.A (pyNext (.ref it)) (fun r s1 => ∃ u, r = some u ∧
   wpAny (model P w) X.A (letOwnedTupleGo tg (.ref it) u) (fun _ s2 => ∃ x H', Inv X pins σ H' s2 ∧ RelV x u ∧ J.yld i H x H' ∧ tn (i + 1) s2.heap ∧ ∀ b ∈ fp, H' b = none) E s1) E s
 done : ∀ (X : Cx), X.prog = P → X.w = w → X.K = K → X.calm = true → ∀ (i : Nat) (pins : Q3) (s : Shared) (σ : St) (H : Hp) (E : Q0), Inv X pins σ H s → (∀ b ∈ fp, FpOk X pins H b) → tn i s.heap → J.stop i H →
  wpAny (model P w) X.A (pyNext (.ref it)) (fun r s1 => r = none ∧ Inv X pins σ H s1) E s
 self : ∀ (A : Around) (i : Nat) (s : Shared) (Q : Q0) (E : Q0), tn i s.heap → Q (.ref it) s → wpAny (model P w) A (pyIter (.ref it)) Q E s
abbrev TI := St → Hp → (It → Hp → Prop) → Prop
def PIE (X : Cx) (pins : Q3) (σ : St) (tg : Expr) (R : It → Hp → Prop) (itv : Value) (s2 : Shared) : Prop :=
 ∃ (it : Addr) (fp : List Addr) (tn : Nat → Heap → Prop) (J : It) (H' : Hp), itv = .ref it ∧ Inv X pins σ H' s2 ∧ Turn X.prog X.w X.K tg J fp it tn ∧ tn 0 s2.heap ∧ (∀ b ∈ fp, FpOk X pins H' b) ∧ R J H'
def PI (X : Cx) (tg iter : Expr) (wi : TI) : Prop :=
 ∀ (pins : Q3) (s : Shared) (σ : St) (H : Hp) (R : It → Hp → Prop), Inv X pins σ H s → wi σ H R →
   wpAny (model X.prog X.w) X.A (eval iter X.env) (fun v s1 => wpAny (model X.prog X.w) X.A (pyIter v) (PIE X pins σ tg R) X.xe s1) X.xe s
theorem go_of {M : Model} {A : Around} {E : Q0} {s : Shared} {tg : Expr} {it : Addr} {u : Value} {o : Obj} {n : String} {vs : Array Value} {Q : Unit → Shared → Prop} (ho : s.heap.get? it = some o) (hc : o.cls = .type n) (hd : o.data = .fields vs)
 (hn : ["enumerate", "zip", "dict_itemiterator", "dict_reverseitemiterator", "odict_iterator", "itertools.zip_longest", "itertools.pairwise"].contains n = false) (hQ : Q () s) : wpAny M A (letOwnedTupleGo tg (.ref it) u) Q E s := by
 unfold letOwnedTupleGo
 cases tg <;> first
  | exact wpAny_pure hQ
  | (cases u <;> first
   | exact wpAny_pure hQ
   | (refine wpAny_bind (wpAny_load ho ?_)
      rw [hc, hd]
      show wpAny M A (if (["enumerate", "zip", "dict_itemiterator", "dict_reverseitemiterator", "odict_iterator", "itertools.zip_longest", "itertools.pairwise"].contains n && vs[0]? == some (rawInt _)) = true then _ else _) Q E s
      rw [if_neg (by intro h; rw [hn, Bool.false_and] at h; cases h)]
      exact wpAny_pure hQ))
def Itl (K : Q4) (a : Addr) : It :=
 ⟨fun i H => ∃ xs x, SqL K H a xs ∧ xs[i]? = some x, fun i H x H' => H' = H ∧ ∀ xs, SqL K H a xs → xs[i]? = some x, fun i H => ∃ xs, SqL K H a xs ∧ xs.length ≤ i⟩
def Itr (lo : Int) (n : Nat) : It := ⟨fun i _ => i < n, fun i H x H' => H' = H ∧ x = .int (lo + i), fun i _ => n ≤ i⟩
theorem Qhf {P : Program} {w : World} {K : Q4} {tg : Expr} (a it : Addr) : Turn P w K tg (Itl K a) [it] it (fun i h => h.IsListIter it a i) where
 mem := by simp
 obj := fun i h st b hb => by
  have e : b = it := by simpa using hb
  subst e
  obtain ⟨o, e, c, d⟩ := st
  exact ⟨o, e, fun v z => by rw [d] at z; cases z⟩
 keep := fun i h h' st k => st.at fun o e => k it (by simp) o e
 item := by
  intro X hP hw hK hc i pins s σ H E I hf st hg
  subst hP hw hK
  obtain ⟨xs, x, hq, hx⟩ := hg
  obtain ⟨its, rv, p, hz⟩ := I.list hq
  obtain ⟨u, hu, ru⟩ := rv.get hx
  obtain ⟨f0, f1, f2, f3, f4, f5⟩ := hf it (by simp)
  refine wpAny_pyNext_list_item st p.isList (x := u) (by simpa using hu) fun h' st' sb => ?_
  have I1 : Inv X pins σ H { s with heap := h' } := I.turned (t' := s.toks) (fun b o hb e => (sb.2 b hb).trans e) f0 f1 f3 f4 f5
  obtain ⟨o, e, c, d⟩ := id st'
  exact ⟨u, rfl, go_of (s := { s with heap := h' }) e c d (by decide) ⟨x, H, I1, ru, ⟨rfl, fun ys hy => by rw [I.Qdl hy hq]; exact hx⟩, st', fun b hb => (hf b hb).1⟩⟩
 done := by
  intro X hP hw hK hc i pins s σ H E I hf st hg
  subst hP hw hK
  obtain ⟨xs, hq, hx⟩ := hg
  obtain ⟨its, rv, p, hz⟩ := I.list hq
  obtain ⟨f0, f1, f2, f3, f4, f5⟩ := hf it (by simp)
  have hl := rv.length
  exact wpAny_pyNext_list_end (I.ok.hd hc) st p.isList (by simp; omega) fun h' eb => ⟨rfl, I.turned (t' := s.toks) (fun b o hb e => eb b o hb e) f0 f1 f3 f4 f5⟩
 self := fun _ _ _ _ _ st h => wpAny_pyIter_listiter st h
theorem Qg8 {P : Program} {w : World} {K : Q4} {tg : Expr} (it : Addr) (lo : Int) (n : Nat) : Turn P w K tg (Itr lo n) [it] it (fun i h => IsRangeIter h it (lo + (i : Nat) * 1) ((n : Int) - (i : Nat)) 1) where
 mem := by simp
 obj := fun i h st b hb => by
  have e : b = it := by simpa using hb
  subst e
  exact ⟨_, st, fun v z => by
   have z' : Data.fields _ = Data.cell v := z
   cases z'⟩
 keep := fun i h h' st k => k it (by simp) _ st
 item := by
  intro X hP hw hK hc i pins s σ H E I hf st hg
  subst hP hw hK
  obtain ⟨f0, f1, f2, f3, f4, f5⟩ := hf it (by simp)
  have W := Walks.range (prog := X.prog) (w := X.w) (I.ok.hd hc) it lo 1 n
  refine W.item i s _ _ hg st fun v h' tk hv st' kk => ?_
  obtain ⟨t, rfl⟩ := hv
  have I1 : Inv X pins σ H { s with heap := h', toks := tk } := I.turned (fun b o hb e => kk b o (by simpa using hb) e) f0 f1 f3 f4 f5
  refine ⟨_, rfl, go_of (s := { s with heap := h', toks := tk }) (n := "range_iterator") st' rfl rfl (by decide) ⟨.int (lo + i), H, I1, ⟨t, ?_⟩, ⟨rfl, rfl⟩, st', fun b hb => (hf b hb).1⟩⟩
  rw [Int.mul_one]
 done := by
  intro X hP hw hK hc i pins s σ H E I hf st hg
  subst hP hw hK
  obtain ⟨f0, f1, f2, f3, f4, f5⟩ := hf it (by simp)
  exact wpAny_pyNext_range_end (I.ok.hd hc) st (by have : n ≤ i := hg; omega) fun h' eb => ⟨rfl, I.turned (t' := s.toks) (fun b o hb e => eb b o hb e) f0 f1 f3 f4 f5⟩
 self := fun _ _ _ _ _ st h => wpAny_pyIter_rangeiter st h
end L2
namespace L2
open PySem PySem.Spec PyProof.Rows
section
variable {X : Cx} {tg : Expr}
def iList (K : Q4) (tl : TE) : TI := fun σ H R => tl σ H fun x H1 => ∃ a, x = .ref a ∧ (∃ xs, SqL K H1 a xs) ∧ R (Itl K a) H1
theorem Qax {l : Expr} {tl : TE} (hl : PE X l tl) : PI X tg l (iList X.K tl) := by
 intro pins s σ H R I h
 refine thn (hl pins s σ H _ I h) fun v s1 ⟨x, H1, I1, r1, q1⟩ => ?_
 obtain ⟨a, e, ⟨xs, hq⟩, q⟩ := q1
 subst e
 cases r1
 obtain ⟨its, rv, p, hz⟩ := I1.list hq
 refine wpAny_pyIter_list p.isList ?_
 refine ⟨s1.heap.objs.size, [s1.heap.objs.size], _, _, H1, rfl, I1.kept (t' := s1.toks) fun b o e => Heap.get?_push_of_some _ e, Qhf a _, ⟨_, Heap.get?_push_size _ rfl, rfl, rfl⟩, fun b hb => ?_, q⟩
 have e : b = s1.heap.objs.size := by simpa using hb
 subst e
 exact I1.fpOk (Nat.le_refl _) (I1.hok.fresh (Nat.le_refl _))
theorem Qju {pins : Q3} {σ : St} {H : Hp} {s : Shared} {R : It → Hp → Prop} {E : Q0} {lo hi : Int} {t u v : Tok} {tk : Nat} (I : Inv X pins σ H s) (h1 : -(2 ^ 62) ≤ lo) (h2 : lo < 2 ^ 62) (h3 : -(2 ^ 62) ≤ hi) (h4 : hi < 2 ^ 62)
 (q : R (Itr lo (hi - lo).toNat) H) : wpAny (model X.prog X.w) X.A (pyIter (.ref s.heap.objs.size)) (PIE X pins σ tg R) E { s with heap := s.heap.push { cls := .type "range", data := .fields #[.int lo t, .int hi u, .int 1 v] }, toks := tk } := by
 refine wpAny_pyIter_range (IsRange.new ..) (small_one h1 h2 h3 h4) ?_
 have I1 : Inv X pins σ H { s with heap := s.heap.push { cls := .type "range", data := .fields #[.int lo t, .int hi u, .int 1 v] }, toks := tk } := I.kept fun b o e => Heap.get?_push_of_some _ e
 refine ⟨(s.heap.push { cls := .type "range", data := .fields #[.int lo t, .int hi u, .int 1 v] }).objs.size, [(s.heap.push { cls := .type "range", data := .fields #[.int lo t, .int hi u, .int 1 v] }).objs.size], _, _, H, rfl,
  I1.kept (t' := tk) fun b o e => Heap.get?_push_of_some _ e, Qg8 _ lo (hi - lo).toNat, ?_, fun b hb => ?_, q⟩
 ·have e1 : lo + ((0 : Nat) : Int) * 1 = lo := by simp
  have e2 : (((hi - lo).toNat : Nat) : Int) - ((0 : Nat) : Int) = Builtin.Range.rangeSize lo hi 1 := by rw [rangeSize_one]; split <;> omega
  show IsRangeIter _ _ (lo + ((0 : Nat) : Int) * 1) ((((hi - lo).toNat : Nat) : Int) - ((0 : Nat) : Int)) 1
  rw [e1, e2]
  exact Heap.get?_push_size _ rfl
 ·have e : b = (s.heap.push { cls := .type "range", data := .fields #[.int lo t, .int hi u, .int 1 v] }).objs.size := by simpa using hb
  subst e
  exact I1.fpOk (Nat.le_refl _) (I1.hok.fresh (Nat.le_refl _))
def iRng1 (ta : TA) : TI := fun σ H R => ta σ H fun vs H1 => ∃ j : Int, vs = [.int j] ∧ -(2 ^ 62) ≤ j ∧ j < 2 ^ 62 ∧ R (Itr 0 j.toNat) H1
theorem Qaz {a : Expr} {ta : TA} {p pos : Pos} (hg : Gl X "range") (hm : X.mg "range" = none) (ha : PA X [a] ta) (hs : starEach [a] X.env = [(false, eval a X.env)] := by rfl) : PI X tg (.Call (.Name "range" p) [a] [] pos) (iRng1 ta) := by
 intro pins s σ H R I h
 refine Call_ (Qdj I hg hm boot_range (PyProof.Rows.callWith_type1 (thn (ha pos pins s σ H _ I h) fun us s1 ⟨vs, H1, I1, r1, q1⟩ => ?_) hs rfl))
 obtain ⟨j, e, q1, q2, q⟩ := q1
 subst e
 cases r1 with
 | cons r rr =>
   cases rr
   obtain ⟨t, rfl⟩ := r
   exact call_range_1 (Qju I1 (by omega) (by omega) q1 q2 (by simpa using q))
def tFor (wi : TI) (g : TG) (tb : TS) : TS := fun D σ H => wi σ H fun J H1 => ∃ W : Nat → Nat → St → Hp → Prop, (∃ m, W 0 m σ H1) ∧ ∀ i m σ H, W i m σ H →
 (J.stop i H ∧ D.nx σ H) ∨ (J.go i H ∧ ∃ N : St → Hp → Prop, (∀ σ' H', N σ' H' → ∃ m', m' < m ∧ W (i + 1) m' σ' H') ∧ ∀ x H', J.yld i H x H' → g x σ H' fun σ2 H2 => tb { D with nx := N, ct := N, bk := D.nx } σ2 H2)
def pinsAt (fp : List Addr) (h : Heap) : List (Addr × Obj) := fp.filterMap fun b => (h.get? b).map fun o => (b, o)
theorem Qbt {fp : List Addr} {h : Heap} {b : Addr} {o : Obj} (hb : b ∈ fp) (e : h.get? b = some o) : (b, o) ∈ pinsAt fp h := List.mem_filterMap.mpr ⟨b, hb, by rw [e]; rfl⟩
theorem Qh2 {fp : List Addr} {h : Heap} {p : Addr × Obj} (hp : p ∈ pinsAt fp h) : p.1 ∈ fp ∧ h.get? p.1 = some p.2 := by
 obtain ⟨b, hb, e⟩ := List.mem_filterMap.mp hp
 cases q : h.get? b with
 | none => rw [q] at e; cases e
 | some o =>
   rw [q] at e
   have e' : (b, o) = p := Option.some.inj e
   subst e'
   exact ⟨hb, q⟩
theorem Inv.pinned {pins : Q3} {σ : St} {H : Hp} {s : Shared} {fp : List Addr} (I : Inv X pins σ H s) (hf : ∀ b ∈ fp, FpOk X pins H b) (ho : ∀ b ∈ fp, ∃ o, s.heap.get? b = some o ∧ ∀ v, o.data ≠ .cell v) : Inv X (pins ++ pinsAt fp s.heap) σ H s :=
 I.Qcj fun p hp => (List.mem_append.mp hp).elim (fun z => I.pin p (List.mem_append_right _ z)) fun z => by
  obtain ⟨hb, e⟩ := Qh2 z
  obtain ⟨f0, f1, f2, _⟩ := hf p.1 hb
  obtain ⟨o, e', d⟩ := ho p.1 hb
  rw [e] at e'; cases e'
  exact ⟨e, f0, f1, f2, d⟩
theorem Inv.unpinned {pins pl : Q3} {σ : St} {H : Hp} {s : Shared} (I : Inv X (pins ++ pl) σ H s) : Inv X pins σ H s := I.Qcj fun p hp => I.pin p (List.mem_append_right _ (List.mem_append_left _ hp))
theorem Qbe {iter : Expr} {body : List Stmt} {wi : TI} {g : TG} {tb : TS} {pos : Pos} (hp : PassesOwn (model X.prog X.w) X.A X.env X.xe) (hc : X.calm = true) (hi : PI X tg iter wi) (hg : PG X tg g) (hb : PSs X body tb)
 (hs : ∀ x, foldedSetIterable iter X.env x = pure x := by intro _; rfl) : PS X (.For tg iter body [] pos) (tFor wi g tb) := by
 intro pins s σ H D I h
 refine wpAny_For (thn (hi pins s σ H _ I h) fun v s1 h1 => thn h1 fun itv s2 h2 => ?_) hs
 obtain ⟨it, fp, tn, J, H2, e, I2, T, st2, f2, W, ⟨m0, w0⟩, turn⟩ := h2
 subst e
 have stat : ∀ {H' : Hp}, (∀ b ∈ fp, H' b = none) → ∀ b ∈ fp, FpOk X pins H' b := fun hn b hb => ⟨hn b hb, (f2 b hb).2⟩
 refine codeAny_forLoop_any (fun n s' => ∃ i σ' H', Inv X pins σ' H' s' ∧ tn i s'.heap ∧ (∀ b ∈ fp, H' b = none) ∧ W i n σ' H') ?_ m0 ⟨0, σ, H2, I2, st2, fun b hb => (f2 b hb).1, w0⟩
 rintro n s3 ⟨i, σ3, H3, I3, st3, fr3, w3⟩
 rcases turn i n σ3 H3 w3 with ⟨stop, qn⟩ | ⟨go, N, hN, step⟩
 ·refine wpAny_passesOwn hp (thn (T.done X rfl rfl rfl hc i pins s3 σ3 H3 X.xe I3 (stat fr3) st3 stop) fun r s4 ⟨hr, I4⟩ => ?_)
  subst hr
  exact wpAny_execs_nil ⟨σ3, H3, I4, qn⟩
 ·refine wpAny_passesOwn hp (thn (T.item X rfl rfl rfl hc i pins s3 σ3 H3 X.xe I3 (stat fr3) st3 go) fun r s4 ⟨u, hr, h4⟩ => ?_)
  subst hr
  refine wpAny_passesOwn hp (thn h4 fun _ s5 ⟨x, H5, I5, r5, y5, st5, fr5⟩ => ?_)
  have I5' := I5.pinned (stat fr5) (T.obj _ _ st5)
  refine wpAny_passesOwn hp (thn (hg _ s5 σ3 H5 x u _ I5' r5 (step x H5 y5)) fun _ s6 ⟨σ6, H6, I6, q6⟩ => ?_)
  refine wpAny_passesOwn hp (thn (hb _ s6 σ6 H6 _ I6 q6) fun f s7 q7 => ?_)
  have again : ∀ {σ7 : St} {H7 : Hp}, Inv X (pins ++ pinsAt fp s5.heap) σ7 H7 s7 → N σ7 H7 → ∃ m, m < n ∧ ∃ i σ' H', Inv X pins σ' H' s7 ∧ tn i s7.heap ∧ (∀ b ∈ fp, H' b = none) ∧ W i m σ' H' := fun {σ7 H7} I7 n7 => by
   obtain ⟨m', hm, w7⟩ := hN σ7 H7 n7
   refine ⟨m', hm, i + 1, σ7, H7, I7.unpinned, T.keep _ _ _ st5 fun b hb o e => (I7.pin (b, o) (List.mem_append_right _ (List.mem_append_right _ (Qbt hb e)))).1, fun b hb => ?_, w7⟩
   obtain ⟨o, e, d⟩ := T.obj _ _ st5 b hb
   exact (I7.pin (b, o) (List.mem_append_right _ (List.mem_append_right _ (Qbt hb e)))).2.1
  cases f with
  | next => obtain ⟨σ7, H7, I7, n7⟩ := q7; exact again I7 n7
  | cont => obtain ⟨σ7, H7, I7, n7⟩ := q7; exact again I7 n7
  | brk => obtain ⟨σ7, H7, I7, q7⟩ := q7; exact ⟨σ7, H7, I7.unpinned, q7⟩
  | ret v => obtain ⟨x7, σ7, H7, I7, r7, q7⟩ := q7; exact ⟨x7, σ7, H7, I7.unpinned, r7, q7⟩
end
theorem Qbw {K : Q4} {a : Addr} {xs : List V} {g : TG} {tb : TS} {D : Ends} {σ : St} {H : Hp} (Pv : Nat → St → Hp → Prop) (h0 : Pv 0 σ H) (hl : ∀ i σ H, i ≤ xs.length → Pv i σ H → SqL K H a xs)
 (hs : ∀ i x σ H, xs[i]? = some x → Pv i σ H → g x σ H fun σ2 H2 => tb { D with nx := Pv (i + 1), ct := Pv (i + 1), bk := D.nx } σ2 H2) (hd : ∀ σ H, Pv xs.length σ H → D.nx σ H) :
 ∃ W : Nat → Nat → St → Hp → Prop, (∃ m, W 0 m σ H) ∧ ∀ i m σ H, W i m σ H →
   ((Itl K a).stop i H ∧ D.nx σ H) ∨ ((Itl K a).go i H ∧ ∃ N : St → Hp → Prop, (∀ σ' H', N σ' H' → ∃ m', m' < m ∧ W (i + 1) m' σ' H') ∧ ∀ x H', (Itl K a).yld i H x H' → g x σ H' fun σ2 H2 => tb { D with nx := N, ct := N, bk := D.nx } σ2 H2) := by
 refine ⟨fun i m σ H => m = xs.length - i ∧ i ≤ xs.length ∧ Pv i σ H, ⟨xs.length, by simp, Nat.zero_le _, h0⟩, ?_⟩
 rintro i m σ H ⟨rfl, hi, p⟩
 have q := hl i σ H hi p
 by_cases hlt : i < xs.length
 ·refine .inr ⟨⟨xs, xs[i], q, by simp [hlt]⟩, Pv (i + 1), fun σ' H' p' => ⟨xs.length - (i + 1), by omega, rfl, hlt, p'⟩, fun x H' y => ?_⟩
  obtain ⟨e, y⟩ := y
  subst e
  exact hs i x σ _ (y xs q) p
 ·have e : i = xs.length := by omega
  subst e
  exact .inl ⟨⟨xs, q, Nat.le_refl _⟩, hd σ H p⟩
theorem Qbh {lo : Int} {n : Nat} {g : TG} {tb : TS} {D : Ends} {σ : St} {H : Hp} (Pv : Nat → St → Hp → Prop) (h0 : Pv 0 σ H)
 (hs : ∀ i σ H, i < n → Pv i σ H → g (.int (lo + i)) σ H fun σ2 H2 => tb { D with nx := Pv (i + 1), ct := Pv (i + 1), bk := D.nx } σ2 H2) (hd : ∀ σ H, Pv n σ H → D.nx σ H) :
 ∃ W : Nat → Nat → St → Hp → Prop, (∃ m, W 0 m σ H) ∧ ∀ i m σ H, W i m σ H →
   ((Itr lo n).stop i H ∧ D.nx σ H) ∨ ((Itr lo n).go i H ∧ ∃ N : St → Hp → Prop, (∀ σ' H', N σ' H' → ∃ m', m' < m ∧ W (i + 1) m' σ' H') ∧ ∀ x H', (Itr lo n).yld i H x H' → g x σ H' fun σ2 H2 => tb { D with nx := N, ct := N, bk := D.nx } σ2 H2) := by
 refine ⟨fun i m σ H => m = n - i ∧ i ≤ n ∧ Pv i σ H, ⟨n, by simp, Nat.zero_le _, h0⟩, ?_⟩
 rintro i m σ H ⟨rfl, hi, p⟩
 by_cases hlt : i < n
 ·refine .inr ⟨hlt, Pv (i + 1), fun σ' H' p' => ⟨n - (i + 1), by omega, rfl, hlt, p'⟩, fun x H' y => ?_⟩
  obtain ⟨e, y⟩ := y
  subst e y
  exact hs i σ _ hlt p
 ·have e : i = n := by omega
  subst e
  exact .inl ⟨Nat.le_refl _, hd σ H p⟩
theorem Qjj {c : TT} {tb : TS} {D : Ends} {σ : St} {H : Hp} (Pv : St → Hp → Prop) (μ : St → Hp → Nat) (h0 : Pv σ H)
 (hs : ∀ σ H, Pv σ H → c σ H fun b H1 => if b = true then tb { D with nx := fun σ' H' => Pv σ' H' ∧ μ σ' H' < μ σ H, ct := fun σ' H' => Pv σ' H' ∧ μ σ' H' < μ σ H, bk := D.nx } σ H1 else D.nx σ H1)
 (mono : ∀ σ H Q Q', (∀ b H1, Q b H1 → Q' b H1) → c σ H Q → c σ H Q') : tWhile c tb D σ H := by
 refine ⟨fun m σ H => m = μ σ H ∧ Pv σ H, ⟨_, rfl, h0⟩, ?_⟩
 rintro m σ H ⟨rfl, p⟩
 refine mono σ H _ _ (fun b H1 q => ?_) (hs σ H p)
 cases b with
 | true => exact ⟨_, fun σ' H' ⟨p', l⟩ => ⟨_, l, rfl, p'⟩, q⟩
 | false => exact q
end L2
namespace L2
open PySem PySem.Spec PyProof.Rows
abbrev R2 := V → V → Hp → VK → Prop
def OpR (X : Cx) (f : Value → Value → Sem Value) (r : R2) : Prop :=
 ∀ (pins : Q3) (s : Shared) (σ : St) (H : Hp) (x y : V) (v u : Value) (Q : VK), Inv X pins σ H s → RelV x v → RelV y u → r x y H Q →
   wpAny (model X.prog X.w) X.A (f v u) (EP X pins σ Q) X.xe s
def UnR (X : Cx) (f : Value → Sem Value) (r : V → Hp → VK → Prop) : Prop :=
 ∀ (pins : Q3) (s : Shared) (σ : St) (H : Hp) (x : V) (v : Value) (Q : VK), Inv X pins σ H s → RelV x v → r x H Q →
   wpAny (model X.prog X.w) X.A (f v) (EP X pins σ Q) X.xe s
def CallR (X : Cx) (f : Value) (r : List V → Hp → VK → Prop) : Prop :=
 ∀ (pins : Q3) (s : Shared) (σ : St) (H : Hp) (xs : List V) (us : List Value) (Q : VK), Inv X pins σ H s → Vals xs us → r xs H Q →
   wpAny (model X.prog X.w) X.A (call f us) (EP X pins σ Q) X.xe s
def tOp (r : R2) (ta tb : TE) : TE := fun σ H Q => ta σ H fun x H1 => tb σ H1 fun y H2 => r x y H2 Q
def tUn (r : V → Hp → VK → Prop) (ta : TE) : TE := fun σ H Q => ta σ H fun x H1 => r x H1 Q
def rI (C : Int → Int → Prop) (g : Int → Int → V) : R2 := fun x y H Q => ∃ i j, x = .int i ∧ y = .int j ∧ C i j ∧ Q (g i j) H
def rI0 (g : Int → Int → V) : R2 := fun x y H Q => ∃ i j, x = .int i ∧ y = .int j ∧ Q (g i j) H
def rU (g : Int → V) : V → Hp → VK → Prop := fun x H Q => ∃ i, x = .int i ∧ Q (g i) H
section
variable {X : Cx} {a b c : Expr} {ta tb tc : TE} {pos : Pos}
theorem binT (ha : PE X a ta) (hb : PE X b tb) {pins : Q3} {s : Shared} {σ : St} {H : Hp} {R : V → V → Hp → Prop} (I : Inv X pins σ H s)
 (h : ta σ H fun x H1 => tb σ H1 fun y H2 => R x y H2) {Q : Q0} {f : Value → Value → Sem Value}
 (hf : ∀ v u s2 x y H2, Inv X pins σ H2 s2 → RelV x v → RelV y u → R x y H2 → wpAny (model X.prog X.w) X.A (f v u) Q X.xe s2) :
 wpAny (model X.prog X.w) X.A (eval a X.env) (fun v s₁ => wpAny (model X.prog X.w) X.A (eval b X.env) (fun u s₂ => wpAny (model X.prog X.w) X.A (f v u) Q X.xe s₂) X.xe s₁) X.xe s := by
 refine thn (ha pins s σ H _ I h) fun v s1 ⟨x, H1, I1, r1, q1⟩ => ?_
 refine thn (hb pins s1 σ H1 _ I1 q1) fun u s2 ⟨y, H2, I2, r2, q2⟩ => ?_
 exact hf v u s2 x y H2 I2 r1 r2 q2
theorem Qan {op : Operator} {r : R2} (ho : OpR X (binaryOp op) r) (ha : PE X a ta) (hb : PE X b tb) : PE X (.BinOp a op b pos) (tOp r ta tb) := by
 intro pins s σ H Q I h
 exact wpAny_BinOp (binT ha hb I h fun v u s2 x y H2 I2 rx ry q => ho pins s2 σ H2 x y v u Q I2 rx ry q)
theorem Qjw {op : UnaryOp} {r : V → Hp → VK → Prop} (ho : UnR X (unaryOp op) r) (ha : PE X a ta) : PE X (.UnaryOp op a pos) (tUn r ta) := by
 intro pins s σ H Q I h
 exact UnaryOp_ (thn (ha pins s σ H _ I h) fun v s1 ⟨x, H1, I1, r1, q1⟩ => ho pins s1 σ H1 x v Q I1 r1 q1)
theorem opI {f : Value → Value → Sem Value} {C : Int → Int → Prop} {g : Int → Int → Int}
 (rule : ∀ (i j : Int) (t u : Tok) (s : Shared) (Q : Q0) (E : Q0), C i j → Q (.int (g i j) s.toks) { s with toks := s.toks + 1 } → wpAny (model X.prog X.w) X.A (f (.int i t) (.int j u)) Q E s) :
 OpR X f (rI C fun i j => .int (g i j)) := by
 intro pins s σ H x y v u Q I rx ry h
 obtain ⟨i, j, rfl, rfl, hc, q⟩ := h
 obtain ⟨t, rfl⟩ := rx
 obtain ⟨t', rfl⟩ := ry
 exact rule i j t t' s _ _ hc ⟨.int (g i j), H, I.tok _, ⟨_, rfl⟩, q⟩
theorem opI0 {f : Value → Value → Sem Value} {g : Int → Int → Int}
 (rule : ∀ (i j : Int) (t u : Tok) (s : Shared) (Q : Q0) (E : Q0), Q (.int (g i j) s.toks) { s with toks := s.toks + 1 } → wpAny (model X.prog X.w) X.A (f (.int i t) (.int j u)) Q E s) :
 OpR X f (rI0 fun i j => .int (g i j)) := by
 intro pins s σ H x y v u Q I rx ry h
 obtain ⟨i, j, rfl, rfl, q⟩ := h
 obtain ⟨t, rfl⟩ := rx
 obtain ⟨t', rfl⟩ := ry
 exact rule i j t t' s _ _ ⟨.int (g i j), H, I.tok _, ⟨_, rfl⟩, q⟩
theorem opB0 {f : Value → Value → Sem Value} {g : Int → Int → Bool}
 (rule : ∀ (i j : Int) (t u : Tok) (s : Shared) (Q : Q0) (E : Q0), Q (.bool (g i j)) s → wpAny (model X.prog X.w) X.A (f (.int i t) (.int j u)) Q E s) :
 OpR X f (rI0 fun i j => .bl (g i j)) := by
 intro pins s σ H x y v u Q I rx ry h
 obtain ⟨i, j, rfl, rfl, q⟩ := h
 obtain ⟨t, rfl⟩ := rx
 obtain ⟨t', rfl⟩ := ry
 exact rule i j t t' s _ _ ⟨.bl (g i j), H, I, rfl, q⟩
def CDiv (i j : Int) : Prop := 0 < j ∧ j < 1073741824
def CPow (i j : Int) : Prop := 0 ≤ j ∧ j ≤ 1000000 ∧ i.natAbs < 2 ^ 64
theorem Qbp : OpR X (binaryOp .Add) (rI0 fun i j => .int (i + j)) := opI0 fun _ _ _ _ _ _ _ q => add_int q
theorem Qgu : OpR X (binaryOp .Sub) (rI0 fun i j => .int (i - j)) := opI0 fun _ _ _ _ _ _ _ q => sub_int q
theorem Qcd : OpR X (binaryOp .FloorDiv) (rI CDiv fun i j => .int (i / j)) := opI fun i j _ _ _ _ _ hc q => by
 have h1 : (0 : Int) < j := hc.1
 have h2 : j < 1073741824 := hc.2
 exact floordiv_int (by omega) (by rw [Int.fdiv_eq_ediv_of_nonneg i (by omega)]; exact q) (.inl (PyProof.noPylong_small (by omega)))
theorem Qa8 : OpR X (binaryOp .Mod) (rI (fun _ j => 0 < j) fun i j => .int (i % j)) := opI fun i j _ _ _ _ _ hc q => by
 have h1 : (0 : Int) < j := hc
 exact mod_int' (by omega) (by rw [Int.fmod_eq_emod_of_nonneg i (by omega)]; exact q)
theorem Qk1 : OpR X (binaryOp .Pow) (rI CPow fun i j => .int (i ^ j.toNat)) := opI fun _ _ _ _ _ _ _ hc q => pow_int_small hc.1 hc.2.1 hc.2.2 q
theorem unI {f : Value → Sem Value} {g : Int → Int}
 (rule : ∀ (i : Int) (t : Tok) (s : Shared) (Q : Q0) (E : Q0), Q (.int (g i) s.toks) { s with toks := s.toks + 1 } → wpAny (model X.prog X.w) X.A (f (.int i t)) Q E s) :
 UnR X f (rU fun i => .int (g i)) := by
 intro pins s σ H x v Q I rx h
 obtain ⟨i, rfl, q⟩ := h
 obtain ⟨t, rfl⟩ := rx
 exact rule i t s _ _ ⟨.int (g i), H, I.tok _, ⟨_, rfl⟩, q⟩
theorem Qga : UnR X (unaryOp .USub) (rU fun i => .int (-i)) := unI fun _ _ _ _ _ q => neg_int q
end
def scal : V → V → Bool
 | .non, .non => true | .non, .int _ => true | .int _, .non => true | .non, .bl _ => true | .bl _, .non => true | .non, .str _ => true | .str _, .non => true
 | .int _, .int _ => true | .bl _, .bl _ => true | .str _, .str _ => true | .byt _, .byt _ => true
 | .int _, .str _ => true | .str _, .int _ => true | .bl _, .str _ => true | .str _, .bl _ => true
 | _, _ => false
def rEq : R2 := fun x y H Q => scal x y = true ∧ Q (.bl (decide (x = y))) H
def rNe : R2 := fun x y H Q => scal x y = true ∧ Q (.bl (!decide (x = y))) H
theorem Qi2 {i j : Int} : decide (V.int i = V.int j) = (i == j) := by
 rw [Bool.eq_iff_iff]
 simp
theorem Qlf {i j : Bool} : decide (V.bl i = V.bl j) = (i == j) := by
 rw [Bool.eq_iff_iff]
 simp
theorem Qi1 {i j : Str} : decide (V.str i = V.str j) = (i == j) := by
 rw [Bool.eq_iff_iff]
 simp
theorem Qi3 {i j : Array UInt8} : decide (V.byt i = V.byt j) = (i.toList == j.toList) := by
 rw [Bool.eq_iff_iff]
 cases i
 cases j
 simp
section
variable {X : Cx} {a b c : Expr} {ta tb tc : TE} {pos : Pos}
theorem Qa7 {pins : Q3} {σ : St} {H : Hp} {s : Shared} {Q : VK} {k k' : Bool} (I : Inv X pins σ H s) (q : Q (.bl k) H) (e : k = k') : EP X pins σ Q (.bool k') s := by
 subst e
 exact ⟨.bl k, H, I, rfl, q⟩
theorem Qb7 : OpR X (compareOp .Eq) rEq := by
 intro pins s σ H x y v u Q I rx ry h
 obtain ⟨hs, q⟩ := h
 cases x with
 | non =>
   cases rx
   cases y with
   | non => cases ry; exact PySem.EqNone.eq_none_none (Qa7 I q (by simp))
   | bl j => cases ry; exact PySem.EqNone.eq_none_bool (Qa7 I q (by simp))
   | int j => obtain ⟨t', rfl⟩ := ry; exact PySem.EqNone.eq_none_int (Qa7 I q (by simp))
   | str j => obtain ⟨t', rfl⟩ := ry; exact PySem.EqNone.eq_none_str (Qa7 I q (by simp))
   | _ => exact absurd (show false = true from hs) Bool.false_ne_true
 | bl i =>
   cases rx
   cases y with
   | non => cases ry; exact PySem.EqNone.eq_bool_none (Qa7 I q (by simp))
   | bl j => cases ry; exact eq_bool (Qa7 I q Qlf)
   | str j => obtain ⟨t', rfl⟩ := ry; exact PySem.EqMixed.eq_bool_str (Qa7 I q (by simp))
   | _ => exact absurd (show false = true from hs) Bool.false_ne_true
 | int i =>
   obtain ⟨t, rfl⟩ := rx
   cases y with
   | non => cases ry; exact PySem.EqNone.eq_int_none (Qa7 I q (by simp))
   | int j => obtain ⟨t', rfl⟩ := ry; exact eq_int (Qa7 I q Qi2)
   | str j => obtain ⟨t', rfl⟩ := ry; exact PySem.EqMixed.eq_int_str (Qa7 I q (by simp))
   | _ => exact absurd (show false = true from hs) Bool.false_ne_true
 | str i =>
   obtain ⟨t, rfl⟩ := rx
   cases y with
   | non => cases ry; exact PySem.EqNone.eq_str_none (Qa7 I q (by simp))
   | bl j => cases ry; exact PySem.EqMixed.eq_str_bool (Qa7 I q (by simp))
   | int j => obtain ⟨t', rfl⟩ := ry; exact PySem.EqMixed.eq_str_int (Qa7 I q (by simp))
   | str j => obtain ⟨t', rfl⟩ := ry; exact eq_str (Qa7 I q Qi1)
   | _ => exact absurd (show false = true from hs) Bool.false_ne_true
 | byt i =>
   obtain ⟨t, rfl⟩ := rx
   cases y with
   | byt j => obtain ⟨t', rfl⟩ := ry; exact PySem.W.eq_bytes (Qa7 I q Qi3)
   | _ => exact absurd (show false = true from hs) Bool.false_ne_true
 | _ => cases y <;> exact absurd (show false = true from hs) Bool.false_ne_true
theorem Qde : OpR X (compareOp .NotEq) rNe := by
 intro pins s σ H x y v u Q I rx ry h
 obtain ⟨hs, q⟩ := h
 cases x with
 | non =>
   cases rx
   cases y with
   | non => cases ry; exact PySem.EqNone.ne_none_none (Qa7 I q (by simp))
   | bl j => cases ry; exact PySem.EqNone.ne_none_bool (Qa7 I q (by simp))
   | int j => obtain ⟨t', rfl⟩ := ry; exact PySem.EqNone.ne_none_int (Qa7 I q (by simp))
   | str j => obtain ⟨t', rfl⟩ := ry; exact PySem.EqNone.ne_none_str (Qa7 I q (by simp))
   | _ => exact absurd (show false = true from hs) Bool.false_ne_true
 | bl i =>
   cases rx
   cases y with
   | non => cases ry; exact PySem.EqNone.ne_bool_none (Qa7 I q (by simp))
   | bl j => cases ry; exact ne_bool (Qa7 I q (congrArg not Qlf))
   | str j => obtain ⟨t', rfl⟩ := ry; exact PySem.EqMixed.ne_bool_str (Qa7 I q (by simp))
   | _ => exact absurd (show false = true from hs) Bool.false_ne_true
 | int i =>
   obtain ⟨t, rfl⟩ := rx
   cases y with
   | non => cases ry; exact PySem.EqNone.ne_int_none (Qa7 I q (by simp))
   | int j => obtain ⟨t', rfl⟩ := ry; exact ne_int (Qa7 I q (congrArg not Qi2))
   | str j => obtain ⟨t', rfl⟩ := ry; exact PySem.EqMixed.ne_int_str (Qa7 I q (by simp))
   | _ => exact absurd (show false = true from hs) Bool.false_ne_true
 | str i =>
   obtain ⟨t, rfl⟩ := rx
   cases y with
   | non => cases ry; exact PySem.EqNone.ne_str_none (Qa7 I q (by simp))
   | bl j => cases ry; exact PySem.EqMixed.ne_str_bool (Qa7 I q (by simp))
   | int j => obtain ⟨t', rfl⟩ := ry; exact PySem.EqMixed.ne_str_int (Qa7 I q (by simp))
   | str j => obtain ⟨t', rfl⟩ := ry; exact ne_str (Qa7 I q (congrArg not Qi1))
   | _ => exact absurd (show false = true from hs) Bool.false_ne_true
 | byt i =>
   obtain ⟨t, rfl⟩ := rx
   cases y with
   | byt j => obtain ⟨t', rfl⟩ := ry; exact PySem.W.ne_bytes (Qa7 I q (congrArg not Qi3))
   | _ => exact absurd (show false = true from hs) Bool.false_ne_true
 | _ => cases y <;> exact absurd (show false = true from hs) Bool.false_ne_true
theorem Qjz : OpR X (compareOp .Lt) (rI0 fun i j => .bl (decide (i < j))) := opB0 fun _ _ _ _ _ _ _ q => lt_int q
theorem op_gt : OpR X (compareOp .Gt) (rI0 fun i j => .bl (decide (j < i))) := opB0 fun _ _ _ _ _ _ _ q => gt_int q
theorem Qly : OpR X (compareOp .IsNot) (fun x y H Q => y = .non ∧ Q (.bl (!decide (x = .non))) H) := by
 intro pins s σ H x y v u Q I rx ry h
 obtain ⟨rfl, q⟩ := h
 cases ry
 refine isnot_none_gen (Qa7 I q ?_)
 cases x <;> first
  | (cases rx; rfl)
  | (obtain ⟨t, rfl⟩ := rx; rfl)
theorem nomark (b : Expr) {op : CmpOp} (h : op ≠ .In := by decide) (h2 : op ≠ .NotIn := by decide) : behindInMarks op b = false := by
 have e1 : (op == CmpOp.In) = false := by cases op <;> first | rfl | exact absurd rfl h
 have e2 : (op == CmpOp.NotIn) = false := by cases op <;> first | rfl | exact absurd rfl h2
 cases b <;> simp [behindInMarks, e1, e2]
theorem Qcl {op : CmpOp} {r : R2} (ho : OpR X (compareOp op) r) (ha : PE X a ta) (hb : PE X b tb) (hm : behindInMarks op b = false) : PE X (.Compare a [op] [b] pos) (tOp r ta tb) := by
 intro pins s σ H Q I h
 exact wpAny_Compare1 (binT ha hb I h fun v u s2 x y H2 I2 rx ry q => ho pins s2 σ H2 x y v u Q I2 rx ry q) hm
def tTest (t : TE) : TT := fun σ H Q => t σ H fun x H' => ∃ k, x = .bl k ∧ Q k H'
theorem Qap {op : CmpOp} {r : R2} (ho : OpR X (compareOp op) r) (ha : PE X a ta) (hb : PE X b tb) (hm : behindInMarks op b = false) : PT X (.Compare a [op] [b] pos) (tTest (tOp r ta tb)) := by
 intro pins s σ H Q I h
 refine wpAny_isTrue_Compare1 (thn (ha pins s σ H _ I h) fun v s1 ⟨x, H1, I1, r1, q1⟩ => thn (hb pins s1 σ H1 _ I1 q1) fun u s2 ⟨y, H2, I2, r2, q2⟩ =>
  thn (ho pins s2 σ H2 x y v u _ I2 r1 r2 q2) fun c s3 ⟨z, H3, I3, r3, k, e, q3⟩ => ?_) hm
 subst e
 cases r3
 exact wpAny_truthy_bool ⟨H3, I3, q3⟩
theorem line63 : (sizeLine : Nat) < 2 ^ 63 := by rw [sizeLine_eq]; decide
theorem vals1 {x : V} {us : List Value} (r : Vals [x] us) : ∃ u, us = [u] ∧ RelV x u := by
 cases r with
 | cons r1 r2 => cases r2; exact ⟨_, rfl, r1⟩
theorem vals2 {x y : V} {us : List Value} (r : Vals [x, y] us) : ∃ u w', us = [u, w'] ∧ RelV x u ∧ RelV y w' := by
 cases r with
 | cons r1 r2 =>
   cases r2 with
   | cons r3 r4 => cases r4; exact ⟨_, _, rfl, r1, r3⟩
theorem Qi8 (hc : X.calm = true) : CallR X (.builtin "min") (fun xs H Q => ∃ i j, xs = [.int i, .int j] ∧ Q (.int (if j < i then j else i)) H) := by
 intro pins s σ H xs us Q I r h
 obtain ⟨i, j, rfl, q⟩ := h
 obtain ⟨u, w', rfl, ⟨t, rfl⟩, ⟨t', rfl⟩⟩ := vals2 r
 refine min_two_ints (I.ok.hd hc) fun h' tk k => ⟨_, H, I.kept k, ?_, q⟩
 by_cases hj : j < i
 ·rw [if_pos hj, if_pos hj]; exact ⟨_, rfl⟩
 ·rw [if_neg hj, if_neg hj]; exact ⟨_, rfl⟩
theorem Qfc : CallR X (.type "int") (fun xs H Q => (∃ i, xs = [.int i] ∧ Q (.int i) H) ∨ ∃ k, xs = [.bl k] ∧ Q (.int (if k then 1 else 0)) H) := by
 intro pins s σ H xs us Q I r h
 rcases h with ⟨i, rfl, q⟩ | ⟨k, rfl, q⟩
 ·obtain ⟨u, rfl, t, rfl⟩ := vals1 r
  exact call_int_int ⟨.int i, H, I, ⟨_, rfl⟩, q⟩
 ·obtain ⟨u, rfl, r1⟩ := vals1 r
  cases r1
  exact call_int_bool ⟨.int (if k then 1 else 0), H, I.tok _, ⟨_, rfl⟩, q⟩
end
end L2
namespace L2
open PySem PySem.Spec PyProof.Rows
structure ObjM (h : Heap) (x dx C : Addr) (mA : Str → Option Value) : Prop where
 obj : h.get? x = some (PySem.W.instObj C dx)
 ns : h.Ns1 dx mA
 ne : dx ≠ x
theorem Qh8 {h : Heap} {dx : Addr} {mA : Str → Option Value} (n : h.Ns1 dx mA) : ∃ od, h.get? dx = some od ∧ ∀ name, PySem.W.lookIn name od = some (mA name) := by
 obtain ⟨o, es, ep, ho, hd, hk, _, hm⟩ := n
 refine ⟨o, ho, fun name => ?_⟩
 have e := hm name
 unfold nsFind findBy at e
 rw [← Array.find?_toList] at e
 unfold PySem.W.lookIn
 rw [hd]
 dsimp only
 split
 ·rename_i y q
  rw [q] at e
  exact congrArg some e
 ·rename_i q
  rw [q] at e
  have a : es.toList.any (·.refKey) = false := by
   rw [List.any_eq_false]
   intro y hy
   obtain ⟨z, t, hkey⟩ := hk y (Array.mem_toList_iff.mp hy)
   simp [DictEntry.refKey, hkey]
  have a' : ¬ es.toList.any (·.refKey) = true := by rw [a]; exact Bool.false_ne_true
  rw [if_neg a']
  exact congrArg some e
theorem ObjM.look {h : Heap} {x dx C : Addr} {mA : Str → Option Value} (I : ObjM h x dx C mA) : ∃ od, PySem.W.InstAt h x (PySem.W.instObj C dx) C (some od) ∧ ∀ name, PySem.W.lookIn name od = some (mA name) :=
 let ⟨od, ho, hl⟩ := Qh8 I.ns
 ⟨od, ⟨I.obj, rfl, rfl, ho⟩, hl⟩
section
variable {prog : Program} {w : World} {A : Around} {E : Q0} {s : Shared} {K : Q4} {x dx C f : Addr} {mA : Str → Option Value} {name : Str} {v : Value}
end
section
variable {P : Program} {w : World} {H H' : Hp} {h h' : Heap} {a C dx : Addr} {fs fs' : List (Str × V)}
theorem Qme (hok : HOk P w H h) (e : H a = some (.ins C dx fs)) : ∃ mA, ObjM h a dx C mA ∧ (∀ f, RelO (fs.lookup f) (mA f)) ∧ PySem.Within mA (fs.map (·.1)) ∧ fs.length ≤ 1000 ∧ H dx = some (.own a) := by
 obtain ⟨d, z, ne, ob, mA, n, r, q⟩ := (show ObjOk P w H h a (.ins C dx fs) from hok a _ e)
 exact ⟨mA, ⟨ob, n, ne⟩, r, q, z, d⟩
end
structure Cls (K : Q4) (C : Addr) : Prop where
 pg : PySem.W.plainGet K C Str.empty = true
 hd : PySem.W.hasDictIn K C = true
 po : PySem.W.plainOver K C = true
 sa : PySem.W.findIn K (.ref C) "__setattr__" = some (some (.builtin "object.__setattr__"))
theorem Cls.get {K : Q4} {C : Addr} (c : Cls K C) (f : Str) : PySem.W.plainGet K C f = true := c.pg
section
variable {X : Cx} {pins : Q3} {σ : St} {H : Hp} {s : Shared} {a C dx : Addr} {fs : List (Str × V)} {f : Str} {v : V} {A : Around} {E : Q0}
end
section
variable {X : Cx} {o e value : Expr} {f : Str} {pos pos' tpos : Pos} {ta tv : TE}
end
section
variable {X : Cx} {pins : Q3} {σ : St} {H : Hp} {s : Shared} {A : Around} {E : Q0} {Q : Q0} {c : Value} {b : Bool}
inductive TyOf (K : Q4) (H : Hp) : V → Value → Prop where
 | non : TyOf K H .non (.type "NoneType")
 | bl (x : Bool) : TyOf K H (.bl x) (.type "bool")
 | int (i : Int) : TyOf K H (.int i) (.type "int")
 | str (x : Str) : TyOf K H (.str x) (.type "str")
 | flt (x : UInt64) : TyOf K H (.flt x) (.type "float")
 | lst {a : Addr} {xs : List V} (e : H a = some (.lst xs)) : TyOf K H (.ref a) (.type "list")
 | frz {a : Addr} {o : Obj} {xs : List V} (e : H a = some (.frz o (.lst xs))) : TyOf K H (.ref a) (.type "list")
 | tup {a : Addr} {xs : List V} (e : H a = some (.tup xs)) : TyOf K H (.ref a) (.type "tuple")
 | dK {a : Addr} {kvs : List (Key × V)} (e : H a = some (.dK kvs)) : TyOf K H (.ref a) (.type "dict")
 | dT {a : Addr} {kvs : List (List Key × V)} (e : H a = some (.dT kvs)) : TyOf K H (.ref a) (.type "dict")
 | ins {a C dx : Addr} {fs : List (Str × V)} (e : H a = some (.ins C dx fs)) (cl : Cls K C) (ha : PySem.W.findIn K (.ref C) "__class__" = some (some (.builtin "object.__class__")))
  (hn : PySem.W.specialIn K (.builtin "object.__class__") "__get__" = some (some (.builtin "getset_descriptor.__get__"))) (htk : PySem.W.takesIn K (.builtin "object.__class__") = some true)
  (hm : PySem.W.mroIn K C (.type "object") = some true) : TyOf K H (.ref a) (.ref C)
theorem Qii {x : V} {u t : Value} (I : Inv X pins σ H s) (rx : RelV x u) (ty : TyOf X.K H x t) (e : PySem.W.kitOne X.K t c = some b) (h : ∀ tk, Q (.bool b) { s with toks := tk }) :
 wpAny (model X.prog X.w) A (call (.builtin "isinstance") [u, c]) Q E s := by
 cases ty with
 | non => cases (show u = Value.none from rx); exact PySem.W.kia_one PySem.W.kitx_none I.kIn True.intro e (fun z => nomatch z) h
 | bl y => cases (show u = Value.bool y from rx); exact PySem.W.kia_one PySem.W.kitx_bool I.kIn True.intro e (fun z => nomatch z) h
 | int i => obtain ⟨t, q⟩ := (show ∃ t, u = Value.int i t from rx); cases q; exact PySem.W.kia_one PySem.W.kitx_int I.kIn True.intro e (fun z => nomatch z) h
 | str y => obtain ⟨t, q⟩ := (show ∃ t, u = Value.str y t from rx); cases q; exact PySem.W.kia_one PySem.W.kitx_str I.kIn True.intro e (fun z => nomatch z) h
 | flt y => obtain ⟨t, q⟩ := (show ∃ t, u = Value.float y t from rx); cases q; exact PySem.W.kia_one PySem.W.kitx_float I.kIn True.intro e (fun z => nomatch z) h
 | @lst a xs ea =>
   cases (show u = Value.ref a from rx)
   obtain ⟨_, _, n, _, h1⟩ := (show ObjOk X.prog X.w H s.heap a (.lst xs) from I.hok a _ ea)
   exact PySem.W.kia_one PySem.W.kitx_list I.kIn ⟨_, h1, rfl⟩ e (fun z => nomatch z) h
 | @frz a ob xs ea =>
   cases (show u = Value.ref a from rx)
   obtain ⟨_, _, _, n, _, h1⟩ := (show ObjOk X.prog X.w H s.heap a (.frz ob (.lst xs)) from I.hok a _ ea)
   exact PySem.W.kia_one PySem.W.kitx_list I.kIn ⟨_, h1, rfl⟩ e (fun z => nomatch z) h
 | @tup a xs ea =>
   cases (show u = Value.ref a from rx)
   obtain ⟨_, _, _, p⟩ := (show ObjOk X.prog X.w H s.heap a (.tup xs) from I.hok a _ ea)
   obtain ⟨o, h1, h2, _⟩ := p
   exact PySem.W.kia_one PySem.W.kitx_tuple I.kIn ⟨o, h1, h2⟩ e (fun z => nomatch z) h
 | @dK a kvs ea =>
   cases (show u = Value.ref a from rx)
   obtain ⟨_, _, vs, _, p⟩ := (show ObjOk X.prog X.w H s.heap a (.dK kvs) from I.hok a _ ea)
   obtain ⟨o, es, ep, h1, h2, _⟩ := p
   exact PySem.W.kia_one PySem.W.kitx_dict I.kIn ⟨o, h1, h2.1⟩ e (fun z => nomatch z) h
 | @dT a kvs ea =>
   cases (show u = Value.ref a from rx)
   obtain ⟨_, _, xs, _, o, es, ep, h1, h2, _⟩ := (show ObjOk X.prog X.w H s.heap a (.dT kvs) from I.hok a _ ea)
   exact PySem.W.kia_one PySem.W.kitx_dict I.kIn ⟨o, h1, h2.1⟩ e (fun z => nomatch z) h
 | @ins a C dx fs ea cl ha hn htk hm =>
   cases (show u = Value.ref a from rx)
   obtain ⟨mA, O, _⟩ := Qme I.hok ea
   obtain ⟨od, J, _⟩ := O.look
   exact PySem.W.kia_one (PySem.W.kitx_own (cl.get _) cl.hd ha hn htk hm) I.kIn J e (fun z => nomatch z) h
end
end L2
namespace L2
open PySem PySem.Spec PyProof.Rows
structure Room (cm : Bool) (k : Nat) (A : Around) : Prop where
 hd : cm = true → A.handled = none
 dp : A.depth + 3 * k + 5 < recursionLimit
 un : A.units + 16 * k + 200 < cLine
theorem Room.mono {cm : Bool} {j k : Nat} {A : Around} (r : Room cm k A) (h : j ≤ k) : Room cm j A := ⟨r.hd, by have := r.dp; omega, by have := r.un; omega⟩
theorem Room.deeper {cm : Bool} {k : Nat} {A : Around} (r : Room cm (k + 1) A) (env : Env) : Room cm k (A.deeper env) :=
 ⟨r.hd, by have := r.dp; show A.depth + 1 + 3 * k + 5 < _; omega, by have := r.un; show A.units + 3 + 16 * k + 200 < _; omega⟩
theorem Room.depth {cm : Bool} {k : Nat} {A : Around} (r : Room cm k A) : A.depth < recursionLimit := by have := r.dp; omega
theorem Room.units {cm : Bool} {k : Nat} {A : Around} (r : Room cm k A) : A.units + 64 < cLine := by have := r.un; omega
def tNil : TA := fun _ H Q => Q [] H
def tCons (ta : TE) (tr : TA) : TA := fun σ H Q => ta σ H fun x H1 => tr σ H1 fun xs H2 => Q (x :: xs) H2
section
variable {X : Cx} {e : Expr} {es : List Expr} {te : TE} {t : TA} {pos : Pos}
theorem Qad : PA X [] tNil := fun _ _ _ _ H Q I h => Calls.spliced_nil ⟨[], H, I, .nil, h⟩
theorem Qaa (ha : PE X e te) (hr : PA X es t) (hs : starEach (e :: es) X.env = (false, eval e X.env) :: starEach es X.env := by rfl) : PA X (e :: es) (tCons te t) := by
 intro pos pins s σ H Q I h
 rw [hs]
 show wpAny _ _ (spliced ((false, eval e X.env) :: backTo pos (starEach es X.env))) _ _ s
 refine Calls.spliced_cons (thn (ha pins s σ H _ I h) fun u s1 ⟨x, H1, I1, r1, q1⟩ => ?_)
 exact thn (hr pos pins s1 σ H1 _ I1 q1) fun us s2 ⟨xs, H2, I2, r2, q2⟩ => ⟨x :: xs, H2, I2, .cons r1 r2, q2⟩
def tTup (t : TA) : TE := fun σ H Q => t σ H fun xs H1 => xs.length ≤ sizeLine ∧ ∀ p, H1 p = none → Q (.ref p) (upd H1 p (.tup xs))
def tLst (t : TA) : TE := fun σ H Q => t σ H fun xs H1 => xs.length ≤ sizeLine ∧ ∀ p, H1 p = none → Q (.ref p) (upd H1 p (.lst xs))
theorem Qbm {x1} (h : PA X es t) : PE X (.Tuple es x1 pos) (tTup t) := by
 intro pins s σ H Q I hq
 refine wpAny_Tuple_spliced (thn (h pos pins s σ H _ I hq) fun us s1 ⟨xs, H1, I1, r, z, q⟩ => ⟨by rw [← r.length]; exact z, ?_⟩)
 have hf : H1 s1.heap.objs.size = none := I1.hok.fresh (Nat.le_refl _)
 refine ⟨.ref s1.heap.objs.size, upd H1 s1.heap.objs.size (.tup xs), I1.laid (t' := s1.toks) (fun b u e => Heap.get?_push_of_some _ e) (Nat.le_refl _) ?_, rfl, q _ hf⟩
 exact ⟨z, us, r, ⟨_, Heap.get?_push_size _ rfl, rfl, _, rfl⟩⟩
theorem Qba (h : PA X es t) : PE X (.List es pos) (tLst t) := by
 intro pins s σ H Q I hq
 refine wpAny_List_spliced (thn (h pos pins s σ H _ I hq) fun us s1 ⟨xs, H1, I1, r, z, q⟩ => ⟨by rw [← r.length]; exact z, ?_⟩)
 have hf : H1 s1.heap.objs.size = none := I1.hok.fresh (Nat.le_refl _)
 refine ⟨.ref s1.heap.objs.size, upd H1 s1.heap.objs.size (.lst xs), I1.laid (t' := s1.toks) (fun b u e => Heap.get?_push_of_some _ e) (Nat.le_refl _) ?_, rfl, q _ hf⟩
 exact ⟨z, us, 0, r, Heap.get?_push_size _ rfl⟩
end
abbrev Sp := List V → Hp → VK → XK → Prop
abbrev CXT := List Env → Hp → Shared → XK → Value → Shared → Prop
structure Env0 (P : Program) (w : World) (K : Q4) (mg : Str → Option Value) (base : Heap) (A : Around) (outer : List Env) (s : Shared) (H : Hp) : Prop where
 frames : A.frames = some outer
 mod : Mod K mg base
 bs : ∀ b o, base.get? b = some o → s.heap.get? b = some o ∧ H b = none
 bsz : base.objs.size ≤ s.heap.objs.size
 funs : s.heap.FunFrames base outer
 frf : ∀ b ∈ frs outer, H b = none
 hok : HOk P w H s.heap
 bare : AllBare s.gens
def CE (outer : List Env) (P : Program) (w : World) (H : Hp) (s : Shared) (Q : VK) (u : Value) (s' : Shared) : Prop :=
 ∃ v H', s'.os = s.os ∧ AllBare s'.gens ∧ Un (frs outer) [] H H' s.heap s'.heap ∧ HOk P w H' s'.heap ∧ RelV v u ∧ Q v H'
def CR (CX : CXT) (outer : List Env) (P : Program) (w : World) (H : Hp) (s : Shared) (Q : VK) (E : XK) (r : Result) (s' : Shared) : Prop :=
 match r with
 | .ok (.ret u) => CE outer P w H s Q u s'
 | .ok _ => False
 | .error e => CX outer H s E e s'
structure FnOk (P : Program) (w : World) (K : Q4) (mg : Str → Option Value) (base : Heap) (CX : CXT) (cm : Bool) (k : Nat) (f : Addr) (fd : FuncData) (ps : List Str) (sp : Sp) : Prop where
 len : ∀ vs H Q E, sp vs H Q E → vs.length = ps.length
 run : ∀ (A : Around) (outer : List Env) (s : Shared) (H : Hp) (args : Args) (us : List Value) (vs : List V) (Q : VK) (E : XK), Room cm k A → Env0 P w K mg base A outer s H → BindsTo s fd args (ps.zip us) → Vals vs us → sp vs H Q E →
  codeAny (model P w) A (.call (.ref f) args) (CR CX outer P w H s Q E) s
section
variable {X : Cx} {pins : Q3} {σ : St} {H : Hp} {s s' : Shared}
theorem Inv.env0 (I : Inv X pins σ H s) : Env0 X.prog X.w X.K X.mg X.base X.A X.stack s H :=
 ⟨I.ok.frames, I.ok.mod, I.bs, Nat.le_trans I.ok.bsz I.sz, I.stack, I.stkFree, I.hok, I.bare⟩
theorem Inv.after {Q : VK} {u : Value} (I : Inv X pins σ H s) (h : CE X.stack X.prog X.w H s Q u s') : EP X pins σ Q u s' := by
 obtain ⟨v, H', os, bare, un, hok, r, q⟩ := h
 obtain ⟨hh, g, d, t, os'⟩ := s'
 obtain rfl : os' = s.os := os
 exact ⟨v, H', I.call (h' := hh) (g' := g) (d' := d) (t' := t) (ch := []) un hok bare (fun b z => absurd z (by simp)), r, q⟩
end
def tCall (sp : Sp) (dvs : List V) (E : XK) (t : TA) : TE := fun σ H Q => t σ H fun vs H1 => sp (vs ++ dvs) H1 Q E
def Binds (K : Q4) (fd : FuncData) (ps : List Str) (ds : List Value) : Prop :=
 ∀ (s : Shared) (us : List Value), K.In s.heap → (us ++ ds).length = ps.length → BindsTo s fd ⟨us, []⟩ (ps.zip (us ++ ds))
theorem Binds.all {K : Q4} {fd : FuncData} {ps : List Str} (h : ∀ us : List Value, us.length = ps.length → bindArgs fd ⟨us, []⟩ = pure (ps.zip us)) : Binds K fd ps [] := fun s us _ hl => by
 rw [List.append_nil] at hl ⊢
 exact .of_eq (h us hl)
def Passes (CX : CXT) (X : Cx) (E : XK) : Prop := ∀ (pins : Q3) (σ : St) (H : Hp) (s : Shared) (e : Value) (s' : Shared), Inv X pins σ H s → CX X.stack H s E e s' → X.xe e s'
section
variable {X : Cx} {CX : CXT} {cm : Bool} {k : Nat} {f C : Addr} {fd : FuncData} {ps : List Str} {sp : Sp} {dvs : List V} {ds : List Value} {E : XK} {x m : Str} {p pos apos : Pos} {e o : Expr} {es : List Expr} {ta : TE} {t : TA}
theorem run_fn {pins : Q3} {σ : St} {H : Hp} {s : Shared} {Q : VK} {us : List Value} {vs : List V} (F : FnOk X.prog X.w X.K X.mg X.base CX cm k f fd ps sp) (hr : Room cm k X.A) (hb : Binds X.K fd ps ds) (hd : Vals dvs ds) (hx : Passes CX X E)
 (I : Inv X pins σ H s) (r : Vals vs us) (h : sp (vs ++ dvs) H Q E) : wpAny (model X.prog X.w) X.A (call (.ref f) us) (EP X pins σ Q) X.xe s := by
 have r2 : Vals (vs ++ dvs) (us ++ ds) := r.append hd
 have hl : (us ++ ds).length = ps.length := by rw [← r2.length]; exact F.len _ _ _ _ h
 refine wpAny_call (codeAny_mono (F.run X.A X.stack s H ⟨us, []⟩ (us ++ ds) (vs ++ dvs) Q E hr I.env0 (hb s us I.kIn hl) r2 h) fun r s' hq => ?_)
 cases r with
 | error e => exact hx pins σ H s e s' I hq
 | ok fl =>
   cases fl with
   | ret u => exact I.after hq
   | next => exact False.elim hq
   | brk => exact False.elim hq
   | cont => exact False.elim hq
theorem Qah (F : FnOk X.prog X.w X.K X.mg X.base CX cm k f fd ps sp) (hr : Room cm k X.A) (hg : Gl X x) (hm : X.mg x = some (.ref f)) (hk : keepIn X.K (.ref f) = true) (hb : Binds X.K fd ps ds) (hd : Vals dvs ds) (hx : Passes CX X E)
 (ha : PA X (e :: es) t) (hdb : (x == ("__debug__" : Str)) = false := by decide) (he : starEach (e :: es) X.env = (false, eval e X.env) :: starEach es X.env := by rfl) (hpl : (backTo pos (starEach es X.env)).any (·.1) = false := by rfl) :
 PE X (.Call (.Name x p) (e :: es) [] pos) (tCall sp dvs E t) := by
 intro pins s σ H Q I h
 refine wpAny_Call_Name_kw (Ql8 I hg hm ?_ hdb)
 refine PySem.W.callWith_K (h₀ := X.base) I.ok.mod.kin hk (thn (ha pos pins s σ H _ I h) fun us s1 ⟨vs, H1, I1, r, q⟩ => ⟨I1.kIn, ?_⟩) he hpl
 exact run_fn F hr hb hd hx I1 r q
end
section
variable {X : Cx} {CX : CXT} {cm : Bool} {k : Nat} {f C : Addr} {fd : FuncData} {ps ks : List Str} {sp : Sp} {E : XK} {x m : Str} {p pos apos kpos : Pos} {e o : Expr} {es : List Expr} {kws : List Keyword} {te ta : TE} {t tk : TA} {nm : Option Str}
variable {g : List Value → List Value → List Value} {gV : List V → List V → List V}
end
structure FnScope (N P : List Str) (sc : Scope) : Prop where
 kind : sc.kind = .function
 co : sc.isCoroutine = false
 gen : sc.isGenerator = false
 nd : N.Nodup
 pre : N.take P.length = P
 par : ∀ x ∈ P, sc.names.lookup x = some .local ∨ sc.names.lookup x = some .cell
 nofree : ∀ y ∈ sc.names, y.2 ≠ .free
theorem fsc {N P : List Str} {sc : Scope} (a : sc.kind = .function := by rfl) (b : sc.isCoroutine = false := by rfl) (c : sc.isGenerator = false := by rfl) (d : N.Nodup := by decide +kernel) (e : N.take P.length = P := by rfl) (g : ∀ x ∈ P, sc.names.lookup x = some .local ∨ sc.names.lookup x = some .cell := by decide +kernel) (i : ∀ y ∈ sc.names, y.2 ≠ .free := by decide +kernel) : FnScope N P sc := ⟨a, b, c, d, e, g, i⟩
theorem Qff {kindOf : Str → Option NameKind} {x : Str} : ∀ {binds : List (Str × Value)} {m : Str → Option Value}, (∀ v, (x, v) ∉ binds) → bindL kindOf binds m x = m x
 | [], _, _ => rfl
 | (n, v) :: r, m, h => by
   unfold bindL
   rw [Qff fun w hw => h w (List.mem_cons_of_mem _ hw)]
   split
   ·have : x ≠ n := by rintro rfl; exact h v List.mem_cons_self
    simp [this]
   ·rfl
theorem Qfh {kindOf : Str → Option NameKind} {x : Str} : ∀ {binds : List (Str × Value)} {m : Str → Option Value}, (∀ v, (x, v) ∉ binds) → bindC kindOf binds m x = m x
 | [], _, _ => rfl
 | (n, v) :: r, m, h => by
   unfold bindC
   rw [Qfh fun w hw => h w (List.mem_cons_of_mem _ hw)]
   split
   ·rfl
   ·have : x ≠ n := by rintro rfl; exact h v List.mem_cons_self
    simp [this]
theorem Qfg {kindOf : Str → Option NameKind} {x : Str} {v : Value} : ∀ {P : List Str} {vs : List Value} {i : Nat} {m : Str → Option Value}, P.Nodup → P[i]? = some x → vs[i]? = some v → kindOf x = some .local →
 bindL kindOf (P.zip vs) m x = some v
 | [], _, _, _, _, h, _, _ => by simp at h
 | _ :: _, [], _, _, _, _, h, _ => by simp at h
 | p :: P, w :: vs, 0, m, nd, h1, h2, hk => by
   simp at h1 h2; subst h1; subst h2
   show bindL kindOf ((p, w) :: P.zip vs) m p = _
   unfold bindL
   rw [Qff fun v hv => (List.nodup_cons.mp nd).1 (List.of_mem_zip hv).1, if_pos hk]
   simp
 | p :: P, w :: vs, i + 1, m, nd, h1, h2, hk => by
   show bindL kindOf ((p, w) :: P.zip vs) m x = _
   unfold bindL
   exact Qfg (i := i) (List.nodup_cons.mp nd).2 (by simpa using h1) (by simpa using h2) hk
theorem Qfi {kindOf : Str → Option NameKind} {x : Str} {v : Value} : ∀ {P : List Str} {vs : List Value} {i : Nat} {m : Str → Option Value}, P.Nodup → P[i]? = some x → vs[i]? = some v → kindOf x ≠ some .local →
 bindC kindOf (P.zip vs) m x = some v
 | [], _, _, _, _, h, _, _ => by simp at h
 | _ :: _, [], _, _, _, _, h, _ => by simp at h
 | p :: P, w :: vs, 0, m, nd, h1, h2, hk => by
   simp at h1 h2; subst h1; subst h2
   show bindC kindOf ((p, w) :: P.zip vs) m p = _
   unfold bindC
   rw [Qfh fun v hv => (List.nodup_cons.mp nd).1 (List.of_mem_zip hv).1, if_neg hk]
   simp
 | p :: P, w :: vs, i + 1, m, nd, h1, h2, hk => by
   show bindC kindOf ((p, w) :: P.zip vs) m x = _
   unfold bindC
   exact Qfi (i := i) (List.nodup_cons.mp nd).2 (by simpa using h1) (by simpa using h2) hk
def start (N : List Str) (vs : List V) : St := vs.map some ++ List.replicate (N.length - vs.length) none
def cxOf (CX : CXT) (cm : Bool) (P : Program) (w : World) (K : Q4) (mg : Str → Option Value) (base : Heap) (N : List Str) (qual : Str) (scope : Scope) (f : Addr) (cd : Value) (A : Around) (outer : List Env) (s : Shared) (H : Hp) (E : XK) : Cx where
 prog := P
 w := w
 K := K
 mg := mg
 base := base
 A := A.deeper (envOfC qual scope s.heap.objs.size f cd)
 N := N
 s₀ := s
 H₀ := H
 env := envOfC qual scope s.heap.objs.size f cd
 outer := outer
 stack := envOfC qual scope s.heap.objs.size f cd :: outer
 ex := []
 calm := cm
 fn := fun _ => true
 pn := []
 xe := fun e s' => wpAny (model P w) (A.deeper (envOfC qual scope s.heap.objs.size f cd)) (leaving (envOfC qual scope s.heap.objs.size f cd) e) (fun _ s'' => CX outer H s E e s'') (fun e' s'' => CX outer H s E e' s'') s'
theorem Qg6 {sc : Scope} {n : Nat} {x : Str} (h : sc.names.lookup x = some .cell) : ∃ c, (cellsFrom n sc.names []).lookup x = some c := by
 have q := PySem.W.cellsFrom_some sc.names n [] (.inl h)
 exact Option.isSome_iff_exists.mp q
theorem Qij {CX : CXT} {cm : Bool} {P : Program} {w : World} {K : Q4} {mg : Str → Option Value} {base : Heap} {N ps : List Str} {qual : Str} {scope : Scope} {f : Addr} {cd : Value} {A : Around} {outer : List Env} {s s1 : Shared} {H : Hp} {E : XK} {us : List Value} {vs : List V}
 (S : FnScope N ps scope) (hd : cm = true → A.handled = none) (e0 : Env0 P w K mg base A outer s H) (hl : vs.length = ps.length) (r : Vals vs us)
 (x : InCallC s s.heap.objs.size (bindL (envOfC qual scope s.heap.objs.size f cd).kindOf (ps.zip us) fun _ => none) (cellsFrom (s.heap.objs.size + 1) scope.names []) (bindC (envOfC qual scope s.heap.objs.size f cd).kindOf (ps.zip us) fun _ => none) s1) :
 Inv (cxOf CX cm P w K mg base N qual scope f cd A outer s H E) [] (start N vs) H s1 := by
 have hpl : ps.length ≤ N.length := by have := congrArg List.length S.pre; rw [List.length_take] at this; omega
 obtain ⟨h1, tk, rfl, hk⟩ := x.done
 have noA : ∀ b : Addr, b ∉ (cxOf CX cm P w K mg base N qual scope f cd A outer s H E).ex := fun b z => absurd (show b ∈ ([] : List Addr) from z) (by simp)
 refine ⟨⟨e0.mod, S.kind, rfl, rfl, Nat.le_refl _, fun y z c h1 h2 => ?_, fun y hy => ?_, fun y c _ h => ?_, hd, Around.frames_deeper e0.frames, .inr ⟨rfl, rfl⟩, fun b z => absurd z (noA b), e0.bs, e0.bsz, fun b _ _ => noA b, fun b z => absurd z (noA b), e0.funs, e0.frf⟩,
  rfl, e0.bare, Un.kept hk, ⟨_, x.toInCall.ns, fun i y v h1 h2 h3 => ?_⟩, fun y c h => ⟨_, x.cell y c h⟩, e0.hok.fresh (Nat.le_refl _), fun y c h => ?_, fun p hp => absurd (show p ∈ ([] : Q3) from hp) (by simp), e0.hok.kept hk, ?_⟩
 ·exact name_of_addr x.apart (PySem.mem_of_lookup h1) (PySem.mem_of_lookup h2)
 ·have hy : scope.names.lookup y = some .cell ∨ scope.names.lookup y = some .free := hy
  rcases hy with hy | hy
  ·exact Qg6 hy
  ·exact absurd rfl (S.nofree _ (PySem.mem_of_lookup hy))
 ·exact Nat.le_of_lt (x.above y c (PySem.mem_of_lookup h))
 ·have hi : i < vs.length := by
   unfold start at h2
   by_cases hi : i < vs.length
   ·exact hi
   ·rw [List.getElem?_append_right (by simpa using hi)] at h2
    rw [List.getElem?_replicate] at h2
    split at h2 <;> cases h2
  have ha : vs[i]? = some v := by
   unfold start at h2
   rw [List.getElem?_append_left (by simpa using hi), List.getElem?_map] at h2
   cases e : vs[i]? with
   | none => rw [e] at h2; cases h2
   | some a => rw [e] at h2; cases h2; rfl
  obtain ⟨u, hu, rv⟩ := r.get ha
  have hp : ps[i]? = some y := by
   rw [← S.pre, List.getElem?_take_of_lt (by omega)]; exact h1
  have ndP : ps.Nodup := by rw [← S.pre]; exact S.nd.sublist (List.take_sublist _ _)
  refine ⟨u, rv, ?_⟩
  rcases S.par y (List.mem_of_getElem? hp) with k | k
  ·exact .inl ⟨k, Qfg ndP hp hu k⟩
  ·obtain ⟨c, e⟩ := Qg6 (n := s.heap.objs.size + 1) k
   refine .inr ⟨.inl k, c, e, ?_⟩
   have q := x.cell y c e
   rw [Qfi ndP hp hu (by show scope.names.lookup y ≠ _; rw [k]; decide)] at q
   exact q
 ·exact e0.hok.fresh (Nat.le_of_lt (x.above y c (PySem.mem_of_lookup h)))
 ·unfold start
  show _ = N.length
  rw [List.length_append, List.length_map, List.length_replicate]
  omega
theorem fn_of {CX : CXT} {cm : Bool} {P : Program} {w : World} {K : Q4} {mg : Str → Option Value} {base : Heap} {k : Nat} {f : Addr} {name qual : Str} {params : Arguments} {body : List Stmt} {scope : Scope} {dV kV doc pm cdv ct oc : Value} {an od : Option Addr}
 {osl : Array Q5} {N ps : List Str} {sp : Sp} (lk : K.lookup f = some ⟨oc, od, .func (fnOf name qual params body scope dV kV doc pm an cdv ct), osl⟩) (hcd : codeIn K cdv qual = true) (S : FnScope N ps scope)
 (len : ∀ vs H Q E, sp vs H Q E → vs.length = ps.length)
 (hbody : ∀ (A : Around) (outer : List Env) (s : Shared) (H : Hp) (vs : List V) (Q : VK) (E : XK), Room cm k (A.deeper (envOfC qual scope s.heap.objs.size f cdv)) → sp vs H Q E →
  ∃ t, PSs (cxOf CX cm P w K mg base N qual scope f cdv A outer s H E) body t ∧ t { nx := fun _ H' => Q .non H', rt := Q } (start N vs) H) :
 FnOk P w K mg base CX cm (k + 1) f (fnOf name qual params body scope dV kV doc pm an cdv ct) ps sp := by
 refine ⟨len, fun A outer s H args us vs Q E hr e0 hb r hsp => ?_⟩
 have hl := len _ _ _ _ hsp
 have KX : K.In s.heap := e0.mod.kin.keeps fun b o e => (e0.bs b o e).1
 have lim : s.heap.NoLimit := e0.mod.nolimit.keeps fun b o e => (e0.bs b o e).1
 have hkind : ∀ y ∈ ps.zip us, scope.names.lookup y.1 = some .local ∨ (scope.names.lookup y.1 = some .cell ∧ ((cellsFrom (s.heap.objs.size + 1) scope.names []).lookup y.1).isSome = true) := fun ⟨n, v⟩ hy => by
  rcases S.par n (List.of_mem_zip hy).1 with q | q
  ·exact .inl q
  ·exact .inr ⟨q, PySem.W.cellsFrom_some _ _ _ (.inl q)⟩
 refine codeAny_call_function hr.depth (KX _ _ lk) rfl S.co S.gen rfl (PySem.W.codeRec_of KX hcd) (hb _ _ _ _ ?_)
 refine wpAny_newFunctionEnv_cells S.kind hkind fun env he s1 x => ?_
 subst he
 refine ⟨lim.keeps x.toInCall.keep, codeAny_func ?_⟩
 obtain ⟨t, ht, hq⟩ := hbody A outer s H vs Q E (hr.deeper _) hsp
 have I : Inv (cxOf CX cm P w K mg base N qual scope f cdv A outer s H E) [] (start N vs) H s1 := Qij S hr.hd e0 hl r x
 refine wpAny_mono (ht [] s1 (start N vs) H _ I hq) (fun fl s' hs => ?_) fun e s' hs => hs
 have fin : ∀ {σ' : St} {H' : Hp} {v : V} {u : Value}, Inv (cxOf CX cm P w K mg base N qual scope f cdv A outer s H E) [] σ' H' s' → RelV v u → Q v H' → CE outer P w H s Q u s' :=
  fun {σ' H' v u} J rv q => ⟨v, H', J.os, J.bare, J.base, J.hok, rv, q⟩
 cases fl with
 | ret u =>
   obtain ⟨v, σ', H', J, rv, q⟩ := hs
   exact fin J rv q
 | next =>
   obtain ⟨σ', H', J, q⟩ := hs
   exact fin (v := V.non) (u := Value.none) J rfl q
 | brk =>
   obtain ⟨_, _, _, q⟩ := hs
   exact False.elim q
 | cont =>
   obtain ⟨_, _, _, q⟩ := hs
   exact False.elim q
end L2
namespace L2
open PySem PySem.Spec PyProof.Rows
section
variable {X : Cx} {x : Str} {p pos : Pos} {e : Expr} {es : List Expr} {t : TA} {id T : String} {r : List V → Hp → VK → Prop}
def tCB (r : List V → Hp → VK → Prop) (t : TA) : TE := fun σ H Q => t σ H fun vs H1 => r vs H1 Q
theorem Qao (hc : CallR X (.builtin id) r) (hg : Gl X x) (hm : X.mg x = none) (hv : bootBuiltins x = some (.builtin id)) (ha : PA X (e :: es) t) (hn : x ≠ "__name__" := by decide) (hdb : (x == ("__debug__" : Str)) = false := by decide)
 (he : starEach (e :: es) X.env = (false, eval e X.env) :: starEach es X.env := by rfl) (hpl : (backTo pos (starEach es X.env)).any (·.1) = false := by rfl) : PE X (.Call (.Name x p) (e :: es) [] pos) (tCB r t) := by
 intro pins s σ H Q I h
 refine wpAny_Call_Name_kw (Qdj I hg hm hv ?_ hn hdb)
 exact PyProof.Rows.callWith_builtin1 (thn (ha pos pins s σ H _ I h) fun us s1 ⟨vs, H1, I1, r1, q1⟩ => hc pins s1 σ H1 vs us Q I1 r1 q1) he hpl
theorem Qbg (hc : CallR X (.type T) r) (hg : Gl X x) (hm : X.mg x = none) (hv : bootBuiltins x = some (.type T)) (ha : PA X (e :: es) t) (hn : x ≠ "__name__" := by decide) (hdb : (x == ("__debug__" : Str)) = false := by decide)
 (he : starEach (e :: es) X.env = (false, eval e X.env) :: starEach es X.env := by rfl) (hpl : (backTo pos (starEach es X.env)).any (·.1) = false := by rfl) : PE X (.Call (.Name x p) (e :: es) [] pos) (tCB r t) := by
 intro pins s σ H Q I h
 refine wpAny_Call_Name_kw (Qdj I hg hm hv ?_ hn hdb)
 exact PyProof.Rows.callWith_type1 (thn (ha pos pins s σ H _ I h) fun us s1 ⟨vs, H1, I1, r1, q1⟩ => hc pins s1 σ H1 vs us Q I1 r1 q1) he hpl
end
end L2
namespace HT
open PySem PyProof.Rows
section
open PySem.SeqAt
open PySem.AutoSeq1 (wpAny_loadPart')
open PySem.MeetsSeq PySem.MeetsSeq2 PySem.MeetsSeq3
end
section
variable {prog : Program} {w : World} {A : Around} {E : Q0} {s : Shared}
def sIx (n d : Nat) : Option Int → Nat
 | none => d
 | some v => if v < 0 then (v + (n : Int)).toNat else min v.toNat n
theorem sIx_none (n d : Nat) : sIx n d none = d := rfl
theorem sIx_nat (n d k : Nat) : sIx n d (some (k : Int)) = min k n := by
 show (if (k : Int) < 0 then ((k : Int) + (n : Int)).toNat else min (k : Int).toNat n) = min k n
 rw [if_neg (by omega), Int.toNat_natCast]
end
end HT
namespace L2
open PySem PySem.Spec PyProof.Rows
abbrev TO := St → Hp → (Option Int → Hp → Prop) → Prop
def PO (X : Cx) (e : Option Expr) (t : TO) : Prop :=
 ∀ (pins : Q3) (s : Shared) (σ : St) (H : Hp) (Q : Option Int → Hp → Prop), Inv X pins σ H s → t σ H Q →
   wpAny (model X.prog X.w) X.A (evalPart e X.env) (fun u s' => ∃ o H', Inv X pins σ H' s' ∧ IsPart u o ∧ Q o H') X.xe s
def tNoPart : TO := fun _ H Q => Q none H
def tPart (t : TE) : TO := fun σ H Q => t σ H fun x H1 => ∃ i, x = .int i ∧ Q (some i) H1
section
variable {X : Cx} {e : Expr} {te : TE} {lo hi : Option Expr} {tl th : TO} {pos p2 : Pos}
theorem Qbl : PO X none tNoPart := by
 intro pins s σ H Q I h
 rw [evalPart_none]
 exact wpAny_pure ⟨none, H, I, .none, h⟩
theorem Qa9 (h : PE X e te) : PO X (some e) (tPart te) := by
 intro pins s σ H Q I hw
 rw [evalPart_some]
 refine thn (h pins s σ H _ I hw) fun u s1 ⟨x, H1, I1, r1, q1⟩ => ?_
 obtain ⟨i, rfl, q⟩ := q1
 obtain ⟨t, rfl⟩ := r1
 exact ⟨some i, H1, I1, .int i t, q⟩
def SlR (X : Cx) (r : V → Option Int → Option Int → Hp → VK → Prop) : Prop :=
 ∀ (pins : Q3) (s : Shared) (σ : St) (H : Hp) (x : V) (v vl vu : Value) (lo hi : Option Int) (sl : Addr) (Q : VK), Inv X pins σ H s → RelV x v → s.heap.IsSliceOf sl vl vu .none → IsPart vl lo → IsPart vu hi → r x lo hi H Q →
   ∃ T id, typeLookup (.type T) "__getitem__" = pure (some (.builtin id)) ∧ s.TypeIs v T ∧ wpAny (model X.prog X.w) X.A (getItem v (.ref sl)) (EP X pins σ Q) X.xe s
def tSl (r : V → Option Int → Option Int → Hp → VK → Prop) (te : TE) (tl th : TO) : TE := fun σ H Q => te σ H fun x H1 => tl σ H1 fun l H2 => th σ H2 fun u H3 => r x l u H3 Q
theorem Qa3 {r : V → Option Int → Option Int → Hp → VK → Prop} (hr : SlR X r) (he : PE X e te) (hl : PO X lo tl) (hu : PO X hi th) : PE X (.Subscript e (.Slice lo hi none p2) pos) (tSl r te tl th) := by
 intro pins s σ H Q I h
 refine Subscript_ (thn (he pins s σ H _ I h) fun v s1 ⟨x, H1, I1, r1, q1⟩ => ?_)
 refine wpAny_Slice (thn (hl pins s1 σ H1 _ I1 q1) fun vl s2 ⟨l, H2, I2, pl, q2⟩ => thn (hu pins s2 σ H2 _ I2 q2) fun vu s3 ⟨u, H3, I3, pu, q3⟩ => ?_)
 rw [evalPart_none]
 refine wpAny_pure ?_
 have I4 : Inv X pins σ H3 { s3 with heap := s3.heap.push { cls := .type "slice", data := .fields #[vl, vu, .none] } } := I3.kept (t' := s3.toks) fun b ob q => Heap.get?_push_of_some _ q
 obtain ⟨T, id, hT, ht, hg⟩ := hr pins { s3 with heap := s3.heap.push { cls := .type "slice", data := .fields #[vl, vu, .none] } } σ H3 x v vl vu l u s3.heap.objs.size Q I4 r1 (Heap.IsSliceOf.new ..) pl pu q3
 show wpAny (model X.prog X.w) X.A (subscriptTail e (.Slice lo hi none p2) v (.ref s3.heap.objs.size)) (EP X pins σ Q) X.xe { s3 with heap := s3.heap.push { cls := .type "slice", data := .fields #[vl, vu, .none] } }
 exact tail_any (ops := [.ref s3.heap.objs.size, v]) ht hT hg (by with_unfolding_all rfl)
def cutV (xs : List V) (lo hi : Option Int) : List V := (xs.drop (HT.sIx xs.length 0 lo)).take (HT.sIx xs.length xs.length hi - HT.sIx xs.length 0 lo)
theorem Qf1 (xs : List V) (lo hi : Option Int) : (cutV xs lo hi).length ≤ xs.length := by
 unfold cutV
 rw [List.length_take, List.length_drop]
 omega
end
end L2
namespace L2
open PySem PySem.Spec PyProof.Rows
def ixN (n : Nat) (i : Int) : Option Nat := if 0 ≤ i then (if i < n then some i.toNat else none) else if -(n : Int) ≤ i then some (i + n).toNat else none
def atI {α : Type} (xs : List α) (i : Int) : Option α := (ixN xs.length i).bind fun j => xs[j]?
theorem Qih {n : Nat} {i : Int} {j : Nat} (h : ixN n i = some j) : seqIndex? i n = some j ∧ j < n ∧ -(n : Int) ≤ i ∧ i < n := by
 unfold ixN at h
 by_cases h0 : 0 ≤ i
 ·rw [if_pos h0] at h
  by_cases h1 : i < n
  ·rw [if_pos h1] at h
   have e : i.toNat = j := Option.some.inj h
   exact ⟨by rw [seqIndex_of h0 h1, e], by omega, by omega, h1⟩
  ·rw [if_neg h1] at h; cases h
 ·rw [if_neg h0] at h
  by_cases h1 : -(n : Int) ≤ i
  ·rw [if_pos h1] at h
   have e : (i + n).toNat = j := Option.some.inj h
   exact ⟨by rw [seqIndex_neg (by omega) h1, e], by omega, h1, by omega⟩
  ·rw [if_neg h1] at h; cases h
theorem Qf6 {α : Type} {xs : List α} {i : Int} {v : α} (h : atI xs i = some v) : ∃ j, seqIndex? i xs.length = some j ∧ xs[j]? = some v ∧ j < xs.length ∧ -(xs.length : Int) ≤ i ∧ i < xs.length := by
 unfold atI at h
 cases e : ixN xs.length i with
 | none => rw [e] at h; cases h
 | some j =>
   rw [e] at h
   obtain ⟨h1, h2, h3, h4⟩ := Qih e
   exact ⟨j, h1, h, h2, h3, h4⟩
theorem Qbr {α : Type} {xs : List α} {j : Nat} {v : α} (h : xs[j]? = some v) : atI xs (j : Int) = some v := by
 have hj : j < xs.length := (List.getElem?_eq_some_iff.mp h).1
 have e : ixN xs.length (j : Int) = some j := by
  unfold ixN
  rw [if_pos (by omega), if_pos (by omega)]; simp
 unfold atI; rw [e]; exact h
def PlainIx (b : Expr) : Prop := ∀ o i, subscripted b false o i = operate [o, i] (getItem o i)
def IxR (X : Cx) (r : R2) : Prop :=
 ∀ (value slice : Expr) (pins : Q3) (s : Shared) (σ : St) (H : Hp) (x y : V) (v u : Value) (Q : VK), Inv X pins σ H s → RelV x v → RelV y u → r x y H Q →
   subscripted slice false v u = operate [v, u] (getItem v u) → wpAny (model X.prog X.w) X.A (subscriptTail value slice v u) (EP X pins σ Q) X.xe s
def MtR (X : Cx) (id : String) (r : V → List V → Hp → VK → Prop) : Prop :=
 ∀ (pins : Q3) (s : Shared) (σ : St) (H : Hp) (x : V) (xs : List V) (v : Value) (us : List Value) (Q : VK), Inv X pins σ H s → RelV x v → Vals xs us → r x xs H Q →
   wpAny (model X.prog X.w) X.A (call (.builtin id) (v :: us)) (EP X pins σ Q) X.xe s
section
variable {X : Cx} {a b : Expr} {ta tb : TE} {pos : Pos}
theorem IxR.or {r r' : R2} (h : IxR X r) (h' : IxR X r') : IxR X (fun x y H Q => r x y H Q ∨ r' x y H Q) := by
 intro value slice pins s σ H x y v u Q I rx ry q hs
 rcases q with q | q
 ·exact h value slice pins s σ H x y v u Q I rx ry q hs
 ·exact h' value slice pins s σ H x y v u Q I rx ry q hs
theorem Qam {r : R2} (hr : IxR X r) (ha : PE X a ta) (hb : PE X b tb) (hs : PlainIx b) : PE X (.Subscript a b pos) (tOp r ta tb) := by
 intro pins s σ H Q I h
 exact Subscript_ (binT ha hb I h fun v u s2 x y H2 I2 rx ry q => hr a b pins s2 σ H2 x y v u Q I2 rx ry q (hs _ _))
def rIxL (K : Q4) : R2 := fun x y H Q => ∃ p xs i v, x = .ref p ∧ y = .int i ∧ SqL K H p xs ∧ atI xs i = some v ∧ Q v H
def rIxT (K : Q4) : R2 := fun x y H Q => ∃ p xs i v, x = .ref p ∧ y = .int i ∧ SqT K H p xs ∧ atI xs i = some v ∧ Q v H
def rIxS : R2 := fun x y H Q => ∃ z i c, x = .str z ∧ y = .int i ∧ z.length ≤ sizeLine ∧ atI z.cps.toList i = some c ∧ Q (.str ⟨#[c]⟩) H
theorem Qmb : IxR X (rIxL X.K) := by
 intro value slice pins s σ H x y v u Q I rx ry h hs
 obtain ⟨p, xs, i, z, rfl, rfl, hq, he, q⟩ := h
 cases rx
 obtain ⟨t, rfl⟩ := ry
 obtain ⟨its, r, pl, hz⟩ := I.list hq
 obtain ⟨j, h1, h2, h3, h4, h5⟩ := Qf6 he
 obtain ⟨w, ew, rw'⟩ := r.get h2
 have hl := r.length
 have hn := line63
 have fin : EP X pins σ Q w s := ⟨z, H, I, rw', q⟩
 by_cases h0 : 0 ≤ i
 ·have hj : i.toNat = j := by
   rw [seqIndex_of h0 h5] at h1
   exact Option.some.inj h1
  exact item_listR pl.isList h0 (by omega) (by rw [hj]; simpa using ew) fin hs
 ·have hj : (i + (its.toArray.size : Int)).toNat = j := by
   rw [seqIndex_neg (by omega) h4] at h1
   rw [List.size_toArray, ← hl]
   exact Option.some.inj h1
  exact subscriptTail_builtinR (x := w) pl.isList.typeIs slot_list_getitem.lookup
   (wpAny_getItem_list_neg (Q := fun r s' => r = w ∧ EP X pins σ Q r s') pl.isList (by omega) (by rw [List.size_toArray] <;> omega) (by omega) (by rw [hj]; simpa using ew) ⟨rfl, fin⟩) hs
theorem ix_tup : IxR X (rIxT X.K) := by
 intro value slice pins s σ H x y v u Q I rx ry h hs
 obtain ⟨p, xs, i, z, rfl, rfl, hq, he, q⟩ := h
 cases rx
 obtain ⟨t, rfl⟩ := ry
 obtain ⟨its, r, pl, hz⟩ := I.tuple hq
 obtain ⟨j, h1, h2, h3, h4, h5⟩ := Qf6 he
 obtain ⟨w, ew, rw'⟩ := r.get h2
 have hl := r.length
 have hn := line63
 have fin : EP X pins σ Q w s := ⟨z, H, I, rw', q⟩
 exact subscriptTail_builtinR (x := w) pl.typeIs slot_tuple_getitem.lookup
  (getItem_tuple (j := j) (Q := fun r s' => r = w ∧ EP X pins σ Q r s') pl (by omega) (by omega) (by rw [List.size_toArray, ← hl]; exact h1) (by simpa using ew) ⟨rfl, fin⟩) hs
theorem ix_str : IxR X rIxS := by
 intro value slice pins s σ H x y v u Q I rx ry h hs
 obtain ⟨z, i, c, rfl, rfl, hz, he, q⟩ := h
 obtain ⟨t, rfl⟩ := rx
 obtain ⟨t', rfl⟩ := ry
 obtain ⟨j, h1, h2, h3, h4, h5⟩ := Qf6 he
 have hl : z.cps.toList.length = z.length := by simp [Str.length]
 rw [hl] at h1 h4 h5
 have hn := line63
 exact tail_any (typeIs_str s z t) slot_str_getitem.lookup (getItem_str (c := c) (by
  have e1 : decide (i < -(2 ^ 63 : Int)) = false := decide_eq_false (by omega)
  have e2 : decide (i ≥ 2 ^ 63) = false := decide_eq_false (by omega)
  rw [e1, e2, Bool.or_false]) (by rw [h1]; simpa using h2) ⟨.str ⟨#[c]⟩, H, I.tok _, ⟨_, rfl⟩, q⟩) hs
def rIx (K : Q4) : R2 := fun x y H Q => rIxL K x y H Q ∨ rIxT K x y H Q ∨ rIxS x y H Q
theorem Qai : IxR X (rIx X.K) := Qmb.or (ix_tup.or ix_str)
theorem Qhb (its : List Value) (n j : Nat) (u : Value) : Obj.mapSeq (·.setIfInBounds j u) { cls := .type "list", data := .seq its.toArray n } = { cls := .type "list", data := .seq (its.set j u).toArray n } := by
 simp [Obj.mapSeq]
theorem Inv.lst {pins : Q3} {σ : St} {H : Hp} {s : Shared} {p : Addr} {xs : List V} (I : Inv X pins σ H s) (h : H p = some (.lst xs)) :
 ∃ (its : List Value) (n : Nat), Vals xs its ∧ s.heap.get? p = some { cls := .type "list", data := .seq its.toArray n } ∧ xs.length ≤ sizeLine := by
 obtain ⟨z, its, n, r, e⟩ := I.hok p _ h
 exact ⟨its, n, r, e, z⟩
theorem Inv.lstUpd {pins : Q3} {σ : St} {H : Hp} {s : Shared} {p : Addr} {xs ys : List V} {its its' : List Value} {n n' : Nat} {f : Obj → Obj} (I : Inv X pins σ H s) (h : H p = some (.lst xs))
 (ho : s.heap.get? p = some { cls := .type "list", data := .seq its.toArray n }) (hf : f { cls := .type "list", data := .seq its.toArray n } = { cls := .type "list", data := .seq its'.toArray n' }) (r : Vals ys its') (hz : ys.length ≤ sizeLine) (t : Nat) :
 Inv X pins σ (upd H p (.lst ys)) { s with heap := s.heap.update p f, toks := t } := by
 have e : (s.heap.update p f).get? p = some { cls := .type "list", data := .seq its'.toArray n' } := by
  rw [Heap.get?_update_self f ho (by rw [hf] <;> rfl), hf]
 refine I.write (x := p) (e := p) (by rw [h]; trivial) (.inl rfl) (fun b u hb q => (Heap.get?_update_other _ _ (Ne.symm hb)).trans q) ⟨_, e⟩ ?_
 exact ⟨hz, its', n', r, e⟩
def rSetL : V → V → V → Hp → (Hp → Prop) → Prop := fun o i v H Q => ∃ p xs k j, o = .ref p ∧ i = .int k ∧ H p = some (.lst xs) ∧ ixN xs.length k = some j ∧ Q (upd H p (.lst (xs.set j v)))
theorem Qjt : PSet X rSetL := by
 intro pins s σ H o i v ov iv u Q I ro ri rv h
 obtain ⟨p, xs, k, j, rfl, rfl, hp, hj, q⟩ := h
 cases ro
 obtain ⟨t, rfl⟩ := ri
 obtain ⟨its, n, r, ho, hz⟩ := I.lst hp
 obtain ⟨h1, h2, h3, h4⟩ := Qih hj
 have hl := r.length
 have hn := line63
 have I' : Inv X pins σ (upd H p (.lst (xs.set j v))) { s with heap := s.heap.update p (Obj.mapSeq (·.setIfInBounds j u)) } :=
  I.lstUpd hp ho (Qhb its n j u) (r.set rv j) (by rw [List.length_set]; exact hz) s.toks
 by_cases h0 : 0 ≤ k
 ·have hk : k.toNat = j := by
   rw [seqIndex_of h0 h4] at h1
   exact Option.some.inj h1
  exact PySem.W.ki_setAt ho h0 (by omega) (by rw [List.size_toArray, ← hl]; exact h4) (by rw [hk]; exact ⟨_, I', q⟩)
 ·have hk : (k + (its.toArray.size : Int)).toNat = j := by
   rw [seqIndex_neg (by omega) h3] at h1
   rw [List.size_toArray, ← hl]
   exact Option.some.inj h1
  exact PySem.W.ki_setBack ho (by omega) (by rw [List.size_toArray, ← hl]; exact h3) (by omega) (by rw [hk]; exact ⟨_, I', q⟩)
theorem Qex (lo hi : Option Int) (n : Nat) : (sliceBounds lo hi none n).1 = ((HT.sIx n 0 lo : Nat) : Int) ∧ (sliceBounds lo hi none n).2.1 = ((HT.sIx n n hi : Nat) : Int) ∧ (sliceBounds lo hi none n).2.2 = 1 := by
 refine ⟨?_, ?_, rfl⟩
 ·cases lo with
  | none => simp [sliceBounds, HT.sIx]
  | some i =>
    simp only [sliceBounds, HT.sIx, Option.getD_none, show (1 : Int) > 0 by decide, if_true]
    by_cases h : i < 0
    ·simp only [h, if_true] <;> omega
    ·simp only [h, if_false] <;> omega
 ·cases hi with
  | none => simp [sliceBounds, HT.sIx]
  | some i =>
    simp only [sliceBounds, HT.sIx, Option.getD_none, show (1 : Int) > 0 by decide, if_true]
    by_cases h : i < 0
    ·simp only [h, if_true] <;> omega
    ·simp only [h, if_false] <;> omega
theorem Qei (its : List Value) (lo hi : Option Int) : slicePick its.toArray lo hi none = ((its.drop (HT.sIx its.length 0 lo)).take (HT.sIx its.length its.length hi - HT.sIx its.length 0 lo)).toArray := by
 obtain ⟨h1, h2, h3⟩ := Qex lo hi its.toArray.size
 unfold slicePick
 rw [h1, h2, h3]
 simp only [sliceRange_one, pick_run, List.size_toArray] <;> rfl
def rSlL (K : Q4) : V → Option Int → Option Int → Hp → VK → Prop := fun x lo hi H Q => ∃ a xs, x = .ref a ∧ SqL K H a xs ∧ ∀ p, H p = none → Q (.ref p) (upd H p (.lst (cutV xs lo hi)))
theorem Qbf : SlR X (rSlL X.K) := by
 intro pins s σ H x v vl vu lo hi sl Q I rx hs pl pu h
 obtain ⟨a, xs, rfl, hx, q⟩ := h
 cases rx
 obtain ⟨its, r, ht, hz⟩ := I.list hx
 have hlen := r.length
 refine ⟨"list", _, slot_list_getitem.lookup, ht.isList.typeIs, ?_⟩
 refine wpAny_getItem_list_slice ht.isList hs pl pu .none (by simp) ?_ (by rw [List.size_toArray] <;> omega)
 rw [Qei, ← hlen]
 refine ⟨.ref s.heap.objs.size, _, I.laid (t' := s.toks) (o := .lst (cutV xs lo hi)) (fun b ob q => Heap.get?_push_of_some _ q) (Nat.le_refl _) ?_, rfl, q _ (I.hok.fresh (Nat.le_refl _))⟩
 exact ⟨Nat.le_trans (Qf1 xs lo hi) hz, _, 0, (r.drop (HT.sIx xs.length 0 lo)).take (HT.sIx xs.length xs.length hi - HT.sIx xs.length 0 lo), Heap.get?_push_size _ rfl⟩
def flatV : V → Bool
 | .non => true
 | .bl _ => true
 | .int _ => true
 | .str _ => true
 | _ => false
def eqV : V → V → Bool
 | .non, .non => true
 | .bl a, .bl b => a == b
 | .bl a, .int b => (if a then 1 else 0) == b
 | .int a, .bl b => a == (if b then 1 else 0)
 | .int a, .int b => a == b
 | .str a, .str b => a == b
 | _, _ => false
theorem Qiw {A : Around} {s : Shared} {y x : V} {u v : Value} (ry : RelV y u) (rx : RelV x v) (fy : flatV y = true) (fx : flatV x = true) : SeqAt.EqAt A s u v (eqV y x) := by
 cases y with
 | non =>
   cases ry
   cases x with
   | non => cases rx; exact SeqAt.EqAt.same _
   | bl b => cases rx; exact SeqAt.EqAt.none_bool b
   | int b => obtain ⟨t, rfl⟩ := rx; exact SeqAt.EqAt.none_int b t
   | str b => obtain ⟨t, rfl⟩ := rx; exact SeqAt.EqAt.none_str b t
   | _ => exact absurd (show false = true from fx) Bool.false_ne_true
 | bl a =>
   cases ry
   cases x with
   | non => cases rx; exact SeqAt.EqAt.bool_none a
   | bl b => cases rx; exact SeqAt.EqAt.bool_bool a b
   | int b => obtain ⟨t, rfl⟩ := rx; exact SeqAt.EqAt.bool_int a b t
   | str b => obtain ⟨t, rfl⟩ := rx; exact SeqAt.EqAt.bool_str a b t
   | _ => exact absurd (show false = true from fx) Bool.false_ne_true
 | int a =>
   obtain ⟨t', rfl⟩ := ry
   cases x with
   | non => cases rx; exact SeqAt.EqAt.int_none a t'
   | bl b => cases rx; exact SeqAt.EqAt.int_bool a t' b
   | int b => obtain ⟨t, rfl⟩ := rx; exact SeqAt.EqAt.int_int a t' b t
   | str b => obtain ⟨t, rfl⟩ := rx; exact SeqAt.EqAt.int_str a t' b t
   | _ => exact absurd (show false = true from fx) Bool.false_ne_true
 | str a =>
   obtain ⟨t', rfl⟩ := ry
   cases x with
   | non => cases rx; exact SeqAt.EqAt.str_none a t'
   | bl b => cases rx; exact SeqAt.EqAt.str_bool a t' b
   | int b => obtain ⟨t, rfl⟩ := rx; exact SeqAt.EqAt.str_int a t' b t
   | str b => obtain ⟨t, rfl⟩ := rx; exact SeqAt.EqAt.str_str a t' b t
   | _ => exact absurd (show false = true from fx) Bool.false_ne_true
 | _ => exact absurd (show false = true from fy) Bool.false_ne_true
def eqU (x : V) (u : Value) : Bool := match u with
 | .none => eqV .non x
 | .bool b => eqV (.bl b) x
 | .int i _ => eqV (.int i) x
 | .str z _ => eqV (.str z) x
 | _ => false
theorem Qla {x y : V} {u : Value} (r : RelV y u) (f : flatV y = true) : eqU x u = eqV y x := by
 cases y with
 | non => cases r; rfl
 | bl b => cases r; rfl
 | int i => obtain ⟨t, rfl⟩ := r; rfl
 | str z => obtain ⟨t, rfl⟩ := r; rfl
 | _ => exact absurd (show false = true from f) Bool.false_ne_true
theorem Qd1 {x : V} : ∀ {xs : List V} {us : List Value}, Vals xs us → xs.all flatV = true → us.any (eqU x) = xs.any fun y => eqV y x
 | _, _, .nil, _ => rfl
 | y :: xs, u :: us, .cons r t, f => by
   rw [List.all_cons, Bool.and_eq_true] at f
   rw [List.any_cons, List.any_cons, Qla r f.1, Qd1 t f.2]
theorem Qc8 {A : Around} {s : Shared} {x : V} {v : Value} (rx : RelV x v) (fx : flatV x = true) : ∀ {xs : List V} {us : List Value}, Vals xs us → xs.all flatV = true → ∀ u ∈ us, SeqAt.EqAt A s u v (eqU x u)
 | _, _, .nil, _ => fun u hu => by cases hu
 | y :: xs, u :: us, .cons r t, f => fun u' hu => by
   rw [List.all_cons, Bool.and_eq_true] at f
   rcases List.mem_cons.mp hu with rfl | hu
   ·rw [Qla r f.1]; exact Qiw r rx f.1 fx
   ·exact Qc8 rx fx t f.2 u' hu
def inV (x : V) (xs : List V) : Bool := xs.any fun y => eqV y x
def rIn (K : Q4) (neg : Bool) : R2 := fun x y H Q => ∃ p xs, y = .ref p ∧ (SqL K H p xs ∨ SqT K H p xs) ∧ flatV x = true ∧ xs.all flatV = true ∧ Q (.bl (if neg then !inV x xs else inV x xs)) H
theorem Qe4 : OpR X (compareOp .In) (rIn X.K false) := by
 intro pins s σ H x y v u Q I rx ry h
 obtain ⟨p, xs, rfl, hq, fx, fs, q⟩ := h
 cases ry
 rcases hq with hq | hq
 ·obtain ⟨its, r, pl, hz⟩ := I.list hq
  refine SeqAt.in_listAt (eqU x) pl.isList (fun w hw => Qc8 rx fx r fs w (by simpa using hw)) ⟨.bl _, H, I, rfl, ?_⟩
  rw [show its.toArray.any (eqU x) = its.any (eqU x) by simp, Qd1 r fs]
  exact q
 ·obtain ⟨its, r, pl, hz⟩ := I.tuple hq
  refine SeqAt.in_tupleAt (eqU x) pl (fun w hw => Qc8 rx fx r fs w (by simpa using hw)) ⟨.bl _, H, I, rfl, ?_⟩
  rw [show its.toArray.any (eqU x) = its.any (eqU x) by simp, Qd1 r fs]
  exact q
theorem Qb4 : OpR X (compareOp .NotIn) (rIn X.K true) := by
 intro pins s σ H x y v u Q I rx ry h
 obtain ⟨p, xs, rfl, hq, fx, fs, q⟩ := h
 cases ry
 rcases hq with hq | hq
 ·obtain ⟨its, r, pl, hz⟩ := I.list hq
  refine SeqAt.notIn_listAt (eqU x) pl.isList (fun w hw => Qc8 rx fx r fs w (by simpa using hw)) ⟨.bl _, H, I, rfl, ?_⟩
  rw [show its.toArray.any (eqU x) = its.any (eqU x) by simp, Qd1 r fs]
  exact q
 ·obtain ⟨its, r, pl, hz⟩ := I.tuple hq
  refine SeqAt.notIn_tupleAt (eqU x) pl (fun w hw => Qc8 rx fx r fs w (by simpa using hw)) ⟨.bl _, H, I, rfl, ?_⟩
  rw [show its.toArray.any (eqU x) = its.any (eqU x) by simp, Qd1 r fs]
  exact q
theorem Qaj : CallR X (.builtin "len") (fun xs H Q => ∃ p ys, xs = [.ref p] ∧ (SqL X.K H p ys ∨ SqT X.K H p ys) ∧ Q (.int ys.length) H) := by
 intro pins s σ H xs us Q I r h
 obtain ⟨p, ys, rfl, hq, q⟩ := h
 obtain ⟨u, rfl, rx⟩ := vals1 r
 cases rx
 have hn := line63
 rcases hq with hq | hq
 ·obtain ⟨its, r', pl, hz⟩ := I.list hq
  have hlen := r'.length
  exact Calls.call_len_list pl.isList (by simp only [List.size_toArray] <;> omega) ⟨.int ys.length, H, I.tok _, ⟨s.toks + 1, by rw [List.size_toArray, hlen]⟩, q⟩
 ·obtain ⟨its, r', pl, hz⟩ := I.tuple hq
  have hlen := r'.length
  exact len_tuple pl (by simp only [List.size_toArray] <;> omega) ⟨.int ys.length, H, I.tok _, ⟨s.toks + 1, by rw [List.size_toArray, hlen]⟩, q⟩
theorem Qa5 : CallR X (.type "list") (fun xs H Q => ∃ p ys, xs = [.ref p] ∧ (SqL X.K H p ys ∨ SqT X.K H p ys) ∧ ∀ l, H l = none → Q (.ref l) (upd H l (.lst ys))) := by
 intro pins s σ H xs us Q I r h
 obtain ⟨p, ys, rfl, hq, q⟩ := h
 obtain ⟨u, rfl, rx⟩ := vals1 r
 cases rx
 have fin : ∀ (its : List Value), Vals ys its → ys.length ≤ sizeLine → ∀ (h' : Heap) (c' : Nat), (∀ b o', s.heap.get? b = some o' → h'.get? b = some o') →
  h'.get? s.heap.objs.size = some { cls := .type "list", dict := none, data := .seq its.toArray c', slots := #[] } → EP X pins σ Q (.ref s.heap.objs.size) { s with heap := h' } := fun its r' hz h' c' kp e =>
  ⟨.ref s.heap.objs.size, _, I.laid (t' := s.toks) kp (Nat.le_refl _) (show ObjOk X.prog X.w _ h' _ (.lst ys) from ⟨hz, its, c', r', e⟩), rfl, q _ (I.hok.fresh (Nat.le_refl _))⟩
 rcases hq with hq | hq
 ·obtain ⟨its, r', pl, hz⟩ := I.list hq
  have hlen := r'.length
  obtain ⟨o, ho, hc, n, hd⟩ := pl.isList
  exact call_list_seq p (.inl rfl) ho hc hd (fun h' c' kp e => fin its r' hz h' c' kp e) (by simp only [List.size_toArray] <;> omega)
 ·obtain ⟨its, r', pl, hz⟩ := I.tuple hq
  have hlen := r'.length
  obtain ⟨o, ho, hc, n, hd⟩ := pl
  exact call_list_seq p (.inr rfl) ho hc hd (fun h' c' kp e => fin its r' hz h' c' kp e) (by simp only [List.size_toArray] <;> omega)
def tyV (K : Q4) (T : String) (x : V) (H : Hp) : Prop := match x with
 | .str _ => T = "str"
 | .int _ => T = "int"
 | .ref p => (T = "list" ∧ ∃ xs, SqL K H p xs) ∨ (T = "tuple" ∧ ∃ o, K.lookup p = some o ∧ o.cls = .type "tuple" ∧ o.dict = none) ∨
  (T = "dict" ∧ ((∃ kvs, H p = some (.dK kvs)) ∨ ∃ kvs, H p = some (.dT kvs))) ∨ (T = "set" ∧ ∃ S n, H p = some (.set S n))
 | _ => False
theorem tyV_is {pins : Q3} {σ : St} {H : Hp} {s : Shared} {T : String} {x : V} {v : Value} (I : Inv X pins σ H s) (r : RelV x v) (ty : tyV X.K T x H) :
 s.TypeIs v T ∧ ∀ a, v = .ref a → ∃ ob, s.heap.get? a = some ob ∧ ob.dict = none := by
 cases x with
 | str z =>
   obtain ⟨t, rfl⟩ := r
   cases (show T = "str" from ty)
   exact ⟨typeIs_str s z t, fun _ e => nomatch e⟩
 | int i =>
   obtain ⟨t, rfl⟩ := r
   cases (show T = "int" from ty)
   exact ⟨typeIs_int s i t, fun _ e => nomatch e⟩
 | ref p =>
   cases r
   rcases ty with ⟨rfl, xs, hq⟩ | ⟨rfl, o, hk, hc, hd⟩ | ⟨rfl, hk⟩ | ⟨rfl, S, n, hk⟩
   ·obtain ⟨its, _, pl, _⟩ := I.list hq
    refine ⟨pl.isList.typeIs, fun a e => ?_⟩
    cases e
    obtain ⟨o, n, e, c, hd, _⟩ := pl
    exact ⟨o, e, hd⟩
   ·refine ⟨⟨o, I.kIn p o hk, hc⟩, fun a e => ?_⟩
    cases e
    exact ⟨o, I.kIn _ o hk, hd⟩
   ·have z : ∃ o, s.heap.get? p = some o ∧ o.ExactDict := by
     rcases hk with ⟨kvs, hk⟩ | ⟨kvs, hk⟩
     ·obtain ⟨_, _, _, _, o, _, _, e, ex, _⟩ := I.hok p _ hk
      exact ⟨o, e, ex⟩
     ·obtain ⟨_, _, _, _, o, _, _, e, ex, _⟩ := I.hok p _ hk
      exact ⟨o, e, ex⟩
    obtain ⟨o, e, ex⟩ := z
    refine ⟨⟨o, e, ex.1⟩, fun a e2 => ?_⟩
    cases e2
    exact ⟨o, e, ex.2.1⟩
   ·obtain ⟨o, _, _, _, e, ex, _⟩ := I.hok p _ hk
    refine ⟨⟨o, e, ex.1⟩, fun a e2 => ?_⟩
    cases e2
    exact ⟨o, e, ex.2.1⟩
 | _ => exact False.elim ty
def tBM (K : Q4) (T : String) (r : V → List V → Hp → VK → Prop) (to : TE) (t : TA) : TE := fun σ H Q => to σ H fun x H1 => tyV K T x H1 ∧ t σ H1 fun xs H2 => r x xs H2 Q
variable {o e : Expr} {es : List Expr} {to : TE} {t : TA} {name : Str} {apos cpos : Pos} {T id : String} {r : V → List V → Hp → VK → Prop}
theorem Qc7 (pa : PlainAttrs T) (slot : Slot T name id) (hty : typeOf (.builtin id) = pure (.type "method_descriptor")) (hm : MtR X id r) (ho : PE X o to) (ha : PA X (e :: es) t)
 (hbase : attributeBase o name X.env (eval o X.env) = eval o X.env := by rfl)
 (hfew : ((backTo cpos (starEach (e :: es) X.env)).all (fun x => !x.1) && (backToKw cpos (keywordEach [] X.env)).all (fun x => x.1.isSome)
  && decide ((e :: es).length + ([] : List Keyword).length + (if ([] : List Keyword).isEmpty then 0 else 1) < 30)) = true := by rfl)
 (hline : (apos.endLine == cpos.line) = true := by rfl) (hs : starEach (e :: es) X.env = (false, eval e X.env) :: starEach es X.env := by rfl) (hplain : (backTo cpos (starEach es X.env)).any (·.1) = false := by rfl) :
 PE X (.Call (.Attribute o name apos) (e :: es) [] cpos) (tBM X.K T r to t) := by
 intro pins s σ H Q I h
 refine wpAny_Call_method_late hbase hfew hline rfl (thn (ho pins s σ H _ I h) fun v s1 ⟨x, H1, I1, r1, ty, q1⟩ => ?_)
 obtain ⟨h1, h2⟩ := tyV_is I1 r1 ty
 refine ⟨T, id, pa, slot, hty, h1, h2, ?_⟩
 have hA := ha cpos pins s1 σ H1 _ I1 q1
 rw [hs] at hA ⊢
 refine Calls.callWith_builtin (by show (false || (backTo cpos (starEach es X.env)).any (·.1)) = false; rw [hplain] <;> rfl) (Calls.evalArgs_plain ?_)
 exact thn hA fun us s2 ⟨vs, H2, I2, r2, q2⟩ => hm pins s2 σ H2 x vs v us Q I2 r1 r2 q2
end
end L2
namespace L2
open PySem PySem.Spec PyProof.Rows
def MtM (X : Cx) (id : String) (r : V → List V → Hp → VK → Prop) : Prop :=
 ∀ (pins : Q3) (s : Shared) (σ : St) (H : Hp) (x : V) (xs : List V) (v : Value) (us : List Value) (Q : VK), Inv X pins σ H s → RelV x v → Vals xs us → r x xs H Q →
   wpAny (model X.prog X.w) X.A (call (.builtin id) (v :: us)) (EP X pins σ Q) X.xe s
theorem Vals.one : ∀ {x : V} {us : List Value}, Vals [x] us → ∃ u, us = [u] ∧ RelV x u
 | _, _, .cons r .nil => ⟨_, rfl, r⟩
theorem Vals.rep {xs : List V} {us : List Value} (h : Vals xs us) : ∀ k : Nat, Vals (List.replicate k xs).flatten (List.replicate k us).flatten
 | 0 => .nil
 | k + 1 => by
   rw [List.replicate_succ, List.replicate_succ, List.flatten_cons, List.flatten_cons]
   exact Vals.append h (Vals.rep h k)
theorem Qe9 (its : List Value) : ∀ (k : Nat) (acc : List Value),
 List.foldl (fun x1 x2 => x1 ++ x2) acc.toArray (List.replicate k its.toArray) = (acc ++ (List.replicate k its).flatten).toArray
 | 0, acc => by simp
 | k + 1, acc => by
   have e : acc.toArray ++ its.toArray = (acc ++ its).toArray := by simp
   have e2 : (acc ++ its) ++ (List.replicate k its).flatten = acc ++ (List.replicate (k + 1) its).flatten := by
    rw [List.replicate_succ, List.flatten_cons, List.append_assoc]
   rw [← e2, ← Qe9 its k (acc ++ its), ← e, List.replicate_succ, List.foldl_cons]
section
variable {X : Cx} {pins : Q3} {σ : St} {H : Hp} {s : Shared} {l b : Addr} {xs ys zs : List V}
theorem Inv.lset {its its' : List Value} {n : Nat} {f : Array Value → Array Value} {t' : Nat} (I : Inv X pins σ H s) (hH : H l = some (.lst xs))
 (e : s.heap.get? l = some { cls := .type "list", data := .seq its.toArray n }) (hf : f its.toArray = its'.toArray) (hv : Vals ys its') (hz : ys.length ≤ sizeLine) :
 Inv X pins σ (upd H l (.lst ys)) { s with heap := s.heap.update l (Obj.mapSeq f), toks := t' } := by
 have q := PySem.IsL.update e f
 rw [hf] at q
 refine I.write (x := l) (e := l) (by rw [hH]; exact trivial) (.inl rfl) (fun b' u hb hu => (Heap.get?_update_other s.heap (Obj.mapSeq f) (Ne.symm hb)).trans hu) ⟨_, q⟩ ?_
 exact ⟨hz, its', _, hv, q⟩
theorem Inv.lnew {its : List Value} {t' : Nat} (I : Inv X pins σ H s) (hv : Vals ys its) (hz : ys.length ≤ sizeLine) :
 Inv X pins σ (upd H s.heap.objs.size (.lst ys)) { s with heap := s.heap.push { cls := .type "list", data := .seq its.toArray }, toks := t' } :=
 I.laid (fun _ _ q => Heap.get?_push_of_some _ q) (Nat.le_refl _) ⟨hz, its, 0, hv, Heap.get?_push_size _ rfl⟩
theorem Inv.fresh (I : Inv X pins σ H s) : H s.heap.objs.size = none := I.hok.fresh (Nat.le_refl _)
theorem Inv.lstM (I : Inv X pins σ H s) (hH : H l = some (.lst xs)) : xs.length ≤ sizeLine ∧ ∃ (its : List Value) (n : Nat), Vals xs its ∧ xs.length = its.length ∧ s.heap.get? l = some { cls := .type "list", data := .seq its.toArray n } := by
 obtain ⟨z, its, n, r, e⟩ := I.hok l _ hH
 exact ⟨z, its, n, r, r.length, e⟩
theorem notLongL {n : Nat} (h : n ≤ sizeLine) : Builtin.List.listTooLong n = false := by
 unfold Builtin.List.listTooLong
 exact decide_eq_false (by omega)
end
section
variable {X : Cx}
def rAppend : V → List V → Hp → VK → Prop := fun x vs H Q => ∃ l xs y, x = .ref l ∧ vs = [y] ∧ H l = some (.lst xs) ∧ xs.length < sizeLine ∧ Q .non (upd H l (.lst (xs ++ [y])))
theorem Qbs : MtM X "list.append" rAppend := by
 intro pins s σ H x vs v us Q I rx rv h
 obtain ⟨l, xs, y, rfl, rfl, hH, hz, q⟩ := h
 cases rx
 obtain ⟨u, rfl, ru⟩ := rv.one
 obtain ⟨z, its, n, r, hl, e⟩ := I.lstM hH
 refine call_meets F.slot_list_append ⟨_, e, rfl⟩ F.entry_list_append (F.args_list_append_2 _ _) (PySem.list_append l its.toArray n u (by rw [List.size_toArray]; omega)) ⟨e, ?_⟩
 refine ⟨.non, _, I.lset (its' := its ++ [u]) hH e (by simp) (r.append (.cons ru .nil)) ?_, rfl, q⟩
 rw [List.length_append, List.length_singleton]
 omega
def rCat : R2 := fun x y H Q => ∃ l b xs zs, x = .ref l ∧ y = .ref b ∧ H l = some (.lst xs) ∧ H b = some (.lst zs) ∧ xs.length + zs.length ≤ sizeLine ∧ ∀ p, H p = none → Q (.ref p) (upd H p (.lst (xs ++ zs)))
theorem Qb1 : OpR X (binaryOp .Add) rCat := by
 intro pins s σ H x y v u Q I rx ry h
 obtain ⟨l, b, xs, zs, rfl, rfl, hH, hB, hz, q⟩ := h
 cases rx
 cases ry
 obtain ⟨z, its, n, r, hl, e⟩ := I.lstM hH
 obtain ⟨z2, its2, n2, r2, hl2, e2⟩ := I.lstM hB
 refine PySem.P.add_list e e2 ?_ (by rw [List.size_toArray, List.size_toArray]; omega)
 have ea : its.toArray ++ its2.toArray = (its ++ its2).toArray := by simp
 rw [ea]
 exact ⟨.ref _, _, I.lnew (t' := s.toks) (r.append r2) (by rw [List.length_append]; omega), rfl, q _ I.fresh⟩
def rRep : R2 := fun x y H Q => ∃ l k xs, x = .ref l ∧ y = .int k ∧ H l = some (.lst xs) ∧ -(2 ^ 63) ≤ k ∧ k < 2 ^ 63 ∧ xs.length * k.toNat ≤ sizeLine ∧
 ∀ p, H p = none → Q (.ref p) (upd H p (.lst (List.replicate k.toNat xs).flatten))
theorem Ql6 {α : Type} (xs : List α) (k : Nat) : (List.replicate k xs).flatten.length = k * xs.length := by
 induction k with
 | zero => simp
 | succ k ih => rw [List.replicate_succ, List.flatten_cons, List.length_append, ih, Nat.succ_mul, Nat.add_comm]
theorem Qe3 : OpR X (binaryOp .Mult) rRep := by
 intro pins s σ H x y v u Q I rx ry h
 obtain ⟨l, k, xs, rfl, rfl, hH, h1, h2, hz, q⟩ := h
 cases rx
 obtain ⟨t, rfl⟩ := ry
 obtain ⟨z, its, n, r, hl, e⟩ := I.lstM hH
 have hlen : its.toArray.size * k.toNat ≤ sizeLine := by rw [List.size_toArray, ← hl]; exact hz
 have hcap : ¬ its.toArray.size * k.toNat > (2 ^ 63 - 1) / 8 := by
  have : (sizeLine : Nat) ≤ (2 ^ 63 - 1) / 8 := by decide
  omega
 have hfit : ¬ (!Builtin.List.listFitsIndex k) = true := by
  rw [fitsIndex_both h1 h2]
  exact Bool.false_ne_true
 have hlong : ¬ Builtin.List.listTooLong (its.toArray.size * k.toNat) = true := by
  rw [notLongL hlen]
  exact Bool.false_ne_true
 have hnew : List.foldl (fun x1 x2 => x1 ++ x2) #[] (List.replicate (if its.toArray.isEmpty = true then 0 else k.toNat) its.toArray) = (List.replicate k.toNat its).flatten.toArray := by
  have f0 : ∀ m : Nat, List.foldl (fun x1 x2 => x1 ++ x2) #[] (List.replicate m its.toArray) = (List.replicate m its).flatten.toArray := fun m => by
   have := Qe9 its m []
   rw [List.nil_append] at this
   exact this
  rw [f0]
  cases its with
  | nil => simp
  | cons a r' => rw [if_neg (by simp)]
 refine wpAny_binaryOp_repeat_ref (T := "list") (U := "int") (by decide) ⟨_, e, rfl⟩ (fun s' => typeIs_int s' k t) noFill_list_mul F.fills_int_mul F.slot_int_rmul repeat_list F.slot_int_index.lookup
  (call_meets F.slot_int_rmul (typeIs_int s k t) F.entry_int_rmul (F.args_int_rmul_2 _ _) (int___rmul___int_list k t l its.toArray n)
   ⟨e, rfl, ⟨_, e, rfl⟩, call_meets F.slot_list_mul ⟨_, e, rfl⟩ F.entry_list_mul (F.args_list_mul_2 _ _) (AutoListH.list___mul___list_int_3 l its.toArray n k t hfit hcap hlong) ⟨e, ?_⟩⟩)
 rw [hnew]
 exact ⟨.ref _, _, I.lnew (t' := s.toks) (r.rep k.toNat) (by rw [Ql6, Nat.mul_comm]; exact hz), rfl, q _ I.fresh⟩
end
section
variable {prog : Program} {w : World} {A : Around} {E : Q0} {s : Shared}
end
section
variable {X : Cx}
end
end L2
namespace L2
open PySem PySem.Spec PyProof.Rows
section
variable {κ : Type} [DecidableEq κ]
def valV (kvs : List (κ × V)) (k : κ) : Option V := (kvs.find? fun kv => decide (kv.1 = k)).map (·.2)
def putK (kvs : List (κ × V)) (k : κ) (v : V) : List (κ × V) :=
 if (kvs.any fun kv => decide (kv.1 = k)) = true then kvs.map (fun kv => if kv.1 = k then (kv.1, v) else kv) else kvs ++ [(k, v)]
theorem Qf7 {p : κ × V} {r : List (κ × V)} {k : κ} (e : p.1 = k) : valV (p :: r) k = some p.2 := by simp [valV, List.find?_cons, e]
theorem Qf8 {p : κ × V} {r : List (κ × V)} {k : κ} (e : ¬ p.1 = k) : valV (p :: r) k = valV r k := by simp [valV, List.find?_cons, e]
theorem Qfw (kvs : List (κ × V)) (k : κ) (v : V) : (putK kvs k v).length ≤ kvs.length + 1 := by
 unfold putK
 split
 ·rw [List.length_map]; omega
 ·rw [List.length_append, List.length_cons, List.length_nil]; omega
theorem RelO.Qc9 {o : Option V} {u : Option Value} (r : RelO o u) : o.isSome = u.isSome := by
 cases o with
 | none => cases u with
   | none => rfl
   | some _ => exact (show False from r).elim
 | some _ => cases u with
   | none => exact (show False from r).elim
   | some _ => rfl
theorem KV.val {kvs : List (κ × V)} {vs : List (κ × Value)} (r : KV kvs vs) (k : κ) : RelO (valV kvs k) (valueAt vs k) := by
 unfold KV at r
 induction r with
 | nil => exact True.intro
 | @cons p q ps qs h t ih =>
   obtain ⟨h1, h2⟩ := h
   by_cases e : p.1 = k
   ·have e' : q.1 = k := h1.symm.trans e
    have b : valueAt (q :: qs) k = some q.2 := by simp [valueAt, List.find?_cons, e']
    rw [Qf7 e, b]; exact h2
   ·have e' : ¬ q.1 = k := fun z => e (h1.trans z)
    have b : valueAt (q :: qs) k = valueAt qs k := by simp [valueAt, List.find?_cons, e']
    rw [Qf8 e, b]; exact ih
theorem KV.any {kvs : List (κ × V)} {vs : List (κ × Value)} (r : KV kvs vs) (k : κ) : (kvs.any fun kv => decide (kv.1 = k)) = vs.any fun kv => decide (kv.1 = k) := by
 unfold KV at r
 induction r with
 | nil => rfl
 | cons h t ih => rw [List.any_cons, List.any_cons, ih, h.1]
theorem KV.repl {kvs : List (κ × V)} {vs : List (κ × Value)} (r : KV kvs vs) (k : κ) {y : V} {u : Value} (ry : RelV y u) :
 KV (kvs.map fun kv => if kv.1 = k then (kv.1, y) else kv) (vs.map fun kv => if kv.1 = k then (kv.1, u) else kv) := by
 unfold KV at r ⊢
 induction r with
 | nil => exact .nil
 | @cons p q ps qs h t ih =>
   rw [List.map_cons, List.map_cons]
   refine .cons ?_ ih
   obtain ⟨h1, h2⟩ := h
   by_cases e : p.1 = k
   ·rw [if_pos e, if_pos (h1.symm.trans e)]; exact ⟨h1, ry⟩
   ·rw [if_neg e, if_neg (fun z => e (h1.trans z))]; exact ⟨h1, h2⟩
theorem KV.put {kvs : List (κ × V)} {vs : List (κ × Value)} (r : KV kvs vs) (k : κ) {y : V} {u : Value} (ry : RelV y u) : KV (putK kvs k y) (stored vs k u) := by
 unfold putK stored
 rw [r.any k]
 by_cases e : (vs.any fun kv => decide (kv.1 = k)) = true
 ·rw [if_pos e, if_pos e]; exact r.repl k ry
 ·rw [if_neg e, if_neg e]; exact Paired.snoc r ⟨rfl, ry⟩
theorem KV.length {kvs : List (κ × V)} {vs : List (κ × Value)} (r : KV kvs vs) : kvs.length = vs.length := Paired.length r
end
theorem Qj6 {P : Program} {w : World} {k : Key} {u : Value} (r : RelV (kV k) u) : (mixKind P w).is k u = true := by
 cases k with
 | inl i => obtain ⟨t, e⟩ := (show ∃ t, u = Value.int i t from r); subst e; exact Qfv P w i t
 | inr x => obtain ⟨t, e⟩ := (show ∃ t, u = Value.str x t from r); subst e; exact Qfu P w x t
theorem Qe7 {P : Program} {w : World} : ∀ {ks : List Key} {us : List Value}, Vals (ks.map kV) us → ItemsAre (mixKind P w) ks us
 | [], _, r => by rw [List.map_nil] at r; cases r; exact .nil
 | k :: ks, _, r => by
   rw [List.map_cons] at r
   cases r with
   | cons h t => exact .cons (Qj6 h) (Qe7 t)
abbrev KT (H : Hp) : List (List Key × V) → List (List Key × Addr × Value) → Prop := Paired fun p q => p.1 = q.1 ∧ H q.2.1 = some (.tup (p.1.map kV)) ∧ RelV p.2 q.2.2
theorem KT.val {H : Hp} {kvs : List (List Key × V)} {xs : List (List Key × Addr × Value)} (r : KT H kvs xs) (k : List Key) : RelO (valV kvs k) ((atKey xs k).map (·.2)) := by
 induction r with
 | nil => exact True.intro
 | @cons p q ps qs h t ih =>
   obtain ⟨h1, _, h2⟩ := h
   by_cases e : p.1 = k
   ·have e' : q.1 = k := h1.symm.trans e
    have b : atKey (q :: qs) k = some q.2 := by simp [atKey, List.find?_cons, e']
    rw [Qf7 e, b]; exact h2
   ·have e' : ¬ q.1 = k := fun z => e (h1.trans z)
    have b : atKey (q :: qs) k = atKey qs k := by simp [atKey, List.find?_cons, e']
    rw [Qf8 e, b]; exact ih
theorem KT.keeps {H H' : Hp} {kvs : List (List Key × V)} {xs : List (List Key × Addr × Value)} (r : KT H kvs xs) (ht : ∀ b ys, H b = some (.tup ys) → H' b = some (.tup ys)) : KT H' kvs xs :=
 Paired.mapP r fun _ _ z => ⟨z.1, ht _ _ z.2.1, z.2.2⟩
section
variable {P : Program} {w : World} {H : Hp} {h : Heap} {a : Addr}
theorem rd_of {u : HO} (ok : HOk P w H h) (e : Rd H a u) : ObjOk P w H h a u := e.ok ok
theorem Qmq {kvs : List (Key × V)} (ok : HOk P w H h) (e : Rd H a (.dK kvs)) : kvs.length ≤ sizeLine ∧ (a == sysModules) = false ∧ ∃ vs, KV kvs vs ∧ h.DictOf (mixKind P w) a vs :=
 show ObjOk P w H h a (.dK kvs) from rd_of ok e
theorem dk_of {kvs : List (Key × V)} (ok : HOk P w H h) (e : H a = some (.dK kvs)) : kvs.length ≤ sizeLine ∧ (a == sysModules) = false ∧ ∃ vs, KV kvs vs ∧ h.DictOf (mixKind P w) a vs := Qmq ok (.inl e)
theorem Qe6 {ks : List Key} (ok : HOk P w H h) (e : H a = some (.tup (ks.map kV))) : (tupleKind (mixKind P w)).is h ks a := by
 obtain ⟨_, its, r, o, h1, h2, n, h3⟩ := (show ObjOk P w H h a (.tup (ks.map kV)) from ok a _ e)
 exact ⟨o, its.toArray, n, h1, h2, h3, by simpa using Qe7 r⟩
theorem dt_rd {kvs : List (List Key × V)} (ok : HOk P w H h) (e : Rd H a (.dT kvs)) : kvs.length ≤ sizeLine ∧ (a == sysModules) = false ∧
 ∃ xs, KT H kvs xs ∧ h.DictOfH (tupleKind (mixKind P w)) a xs := by
 obtain ⟨z, y, xs, r, o, es, ep, h1, h2, h3, h4, h5⟩ := (show ObjOk P w H h a (.dT kvs) from rd_of ok e)
 refine ⟨z, y, xs, r, o, es, ep, h1, h2, h3, h4, fun x hx => ?_, h5⟩
 have all : ∀ {l : List (List Key × V)} {m : List (List Key × Addr × Value)}, KT H l m → ∀ x ∈ m, (tupleKind (mixKind P w)).is h x.1 x.2.1 := by
  intro l m q
  induction q with
  | nil => intro x hx; exact nomatch hx
  | @cons p q ps qs hq t ih =>
    intro x hx
    rcases List.mem_cons.mp hx with e | hx
    ·subst e
     exact Qe6 ok (by rw [← hq.1]; exact hq.2.1)
    ·exact ih x hx
 exact all r x hx
end
def DGet (H : Hp) (a : Addr) (y : V) (r : Option V) : Prop :=
 (∃ kvs k, Rd H a (.dK kvs) ∧ y = kV k ∧ r = valV kvs k) ∨ ∃ kvs k b, Rd H a (.dT kvs) ∧ y = .ref b ∧ H b = some (.tup (k.map kV)) ∧ r = valV kvs k
def DPut (H : Hp) (a : Addr) (y v : V) (H' : Hp) : Prop :=
 (∃ kvs k, H a = some (.dK kvs) ∧ y = kV k ∧ kvs.length < sizeLine ∧ H' = upd H a (.dK (putK kvs k v))) ∨
 ∃ kvs k b, H a = some (.dT kvs) ∧ y = .ref b ∧ H b = some (.tup (k.map kV)) ∧ kvs.length < sizeLine ∧ H' = upd H a (.dT (putK kvs k v))
theorem DGet.k {H : Hp} {a : Addr} {kvs : List (Key × V)} {k : Key} (e : H a = some (.dK kvs)) : DGet H a (kV k) (valV kvs k) := .inl ⟨kvs, k, .inl e, rfl, rfl⟩
theorem DGet.t {H : Hp} {a b : Addr} {kvs : List (List Key × V)} {k : List Key} (e : H a = some (.dT kvs)) (eb : H b = some (.tup (k.map kV))) : DGet H a (.ref b) (valV kvs k) := .inr ⟨kvs, k, b, .inl e, rfl, eb, rfl⟩
theorem DPut.k {H : Hp} {a : Addr} {kvs : List (Key × V)} {k : Key} {v : V} (e : H a = some (.dK kvs)) (hl : kvs.length < sizeLine) : DPut H a (kV k) v (upd H a (.dK (putK kvs k v))) := .inl ⟨kvs, k, e, rfl, hl, rfl⟩
theorem DPut.t {H : Hp} {a b : Addr} {kvs : List (List Key × V)} {k : List Key} {v : V} (e : H a = some (.dT kvs)) (eb : H b = some (.tup (k.map kV))) (hl : kvs.length < sizeLine) :
 DPut H a (.ref b) v (upd H a (.dT (putK kvs k v))) := .inr ⟨kvs, k, b, e, rfl, eb, hl, rfl⟩
section
variable {X : Cx} {pins : Q3} {σ : St} {H : Hp} {s : Shared} {a : Addr} {y v : V} {u r : Value} {o : Option V} {A : Around} {E : Q0}
theorem Inv.big (I : Inv X pins σ H s) : sysModules < s.heap.objs.size := by
 have h : mainGlobals < s.heap.objs.size := (I.mod.glob.keeps I.bk).lt
 exact Nat.lt_trans (by decide) h
theorem d_in {Q : Q0} (hu : A.units + 1 < cLine) (I : Inv X pins σ H s) (g : DGet H a y o) (ry : RelV y u) (h : ∀ s', Inv X pins σ H s' → Q (.bool o.isSome) s') :
 wpAny (model X.prog X.w) A (compareOp .In u (.ref a)) Q E s := by
 rcases g with ⟨kvs, k, e, ey, l⟩ | ⟨kvs, k, b, e, ey, eb, l⟩
 ·subst ey
  obtain ⟨z, hd, vs, rel, dd⟩ := Qmq I.hok e
  refine wpAny_in_of (Qj6 ry) hd dd.mapOf ?_
  rw [← (rel.val k).Qc9, ← l]
  exact h _ (I.tok _)
 ·subst ey
  cases (show u = Value.ref b from ry)
  obtain ⟨z, hd, xs, rel, dd⟩ := dt_rd I.hok e
  refine wpAny_in_heap (tupleKind_room_in1 hu) (Qe6 I.hok eb) hd dd ?_
  have q := (rel.val k).Qc9
  rw [Option.isSome_map] at q
  rw [← q, ← l]
  exact h _ (I.tok _)
theorem Qms {Q : Q0} (hu : A.units + 1 < cLine) (I : Inv X pins σ H s) (g : DGet H a y o) (ry : RelV y u) (h : ∀ s', Inv X pins σ H s' → Q (.bool (!o.isSome)) s') :
 wpAny (model X.prog X.w) A (compareOp .NotIn u (.ref a)) Q E s := by
 rcases g with ⟨kvs, k, e, ey, l⟩ | ⟨kvs, k, b, e, ey, eb, l⟩
 ·subst ey
  obtain ⟨z, hd, vs, rel, dd⟩ := Qmq I.hok e
  refine wpAny_notIn_of (Qj6 ry) hd dd.mapOf ?_
  rw [← (rel.val k).Qc9, ← l]
  exact h _ (I.tok _)
 ·subst ey
  cases (show u = Value.ref b from ry)
  obtain ⟨z, hd, xs, rel, dd⟩ := dt_rd I.hok e
  refine wpAny_notIn_heap (tupleKind_room_in1 hu) (Qe6 I.hok eb) hd dd ?_
  have q := (rel.val k).Qc9
  rw [Option.isSome_map] at q
  rw [← q, ← l]
  exact h _ (I.tok _)
theorem Qmr {h' : Heap} {t' : Nat} {ob : HO} (I : Inv X pins σ H s) (mu : Mut (H a)) (hs : Heap.SameBut a s.heap h') (he : ∃ q, h'.get? a = some q) (new : ObjOk X.prog X.w (upd H a ob) h' a ob) :
 Inv X pins σ (upd H a ob) { s with heap := h', toks := t' } :=
 I.write (x := a) (e := a) mu (.inl rfl) (fun b q hb z => (hs.2 b hb).trans z) he new
theorem Qle {P : Program} {w : World} {H' : Hp} {h' : Heap} {kvs : List (Key × V)} {vs : List (Key × Value)} (z : kvs.length ≤ sizeLine) (hd : (a == sysModules) = false) (rel : KV kvs vs) (dd : h'.DictOf (mixKind P w) a vs) :
 ObjOk P w H' h' a (.dK kvs) := ⟨z, hd, vs, rel, dd⟩
end
section
variable {X : Cx} {pins : Q3} {σ : St} {H : Hp} {s : Shared} {a : Addr} {kvs : List (Key × V)} {k : Key} {u : Value} {A : Around} {E : Q0}
end
def tDIn (ty td : TE) : TE := fun σ H Q => ty σ H fun y H1 => td σ H1 fun x H2 => ∃ a o, x = .ref a ∧ DGet H2 a y o ∧ Q (.bl o.isSome) H2
def tDNotIn (ty td : TE) : TE := fun σ H Q => ty σ H fun y H1 => td σ H1 fun x H2 => ∃ a o, x = .ref a ∧ DGet H2 a y o ∧ Q (.bl (!o.isSome)) H2
section
variable {X : Cx} {o i e value : Expr} {pos pos' tpos : Pos} {td ty tv : TE}
theorem pc_din (hu : X.A.units + 1 < cLine) (hi : PE X i ty) (ho : PE X o td) : PC X .In i o (tDIn ty td) := by
 intro pins s σ H Q I h
 refine thn (hi pins s σ H _ I h) fun iv s1 ⟨y, H1, I1, ry, q1⟩ => thn (ho pins s1 σ H1 _ I1 q1) fun u s2 ⟨x, H2, I2, rx, a, ov, ex, g, q2⟩ => ?_
 subst ex
 obtain rfl : u = Value.ref a := rx
 exact d_in hu I2 g ry fun s3 I3 => ⟨.bl ov.isSome, H2, I3, rfl, q2⟩
theorem Qe2 (hu : X.A.units + 1 < cLine) (hi : PE X i ty) (ho : PE X o td) : PC X .NotIn i o (tDNotIn ty td) := by
 intro pins s σ H Q I h
 refine thn (hi pins s σ H _ I h) fun iv s1 ⟨y, H1, I1, ry, q1⟩ => thn (ho pins s1 σ H1 _ I1 q1) fun u s2 ⟨x, H2, I2, rx, a, ov, ex, g, q2⟩ => ?_
 subst ex
 obtain rfl : u = Value.ref a := rx
 exact Qms hu I2 g ry fun s3 I3 => ⟨.bl (!ov.isSome), H2, I3, rfl, q2⟩
end
theorem Qkg {P : Program} {w : World} {H : Hp} (h : Heap) (hb : sysModules < h.objs.size) : ObjOk P w H (h.push { cls := .type "dict", data := .dict #[] }) h.objs.size (.dK []) :=
 ⟨Nat.zero_le _, beq_eq_false_iff_ne.mpr (Ne.symm (Nat.ne_of_lt hb)), [], .nil, Heap.DictOf.new h⟩
def tDNewK : TE := fun _ H Q => ∀ p, H p = none → Q (.ref p) (upd H p (.dK []))
section
variable {X : Cx} {pos : Pos}
theorem Qjx : PE X (.Dict [] [] pos) tDNewK := fun pins s σ H Q I h =>
 wpAny_Dict_empty ⟨.ref s.heap.objs.size, _, I.laid (a := s.heap.objs.size) (o := .dK []) (t' := s.toks) (fun _ _ q => Heap.get?_push_of_some _ q) (Nat.le_refl _) (Qkg s.heap I.big), rfl, h _ (I.hok.fresh (Nat.le_refl _))⟩
end
section
variable {X : Cx} {pins : Q3} {σ : St} {H : Hp} {s : Shared} {a : Addr} {y d : V} {u r : Value} {o : Option V} {A : Around} {E : Q0}
end
section
variable {X : Cx} {o e f : Expr} {apos cpos : Pos} {td ty tx : TE}
end
section
variable {X : Cx} {pins : Q3} {σ : St} {H : Hp} {s : Shared} {a : Addr} {kvs : List (Key × V)} {A : Around} {E : Q0}
end
section
variable {X : Cx} {pins : Q3} {σ : St} {H : Hp} {s : Shared} {a : Addr} {y : V} {u : Value} {A : Around} {E : Q0}
end
end L2
namespace Att
open PySem PySem.W PySem.Calls PyProof.Rows
theorem Qdu {P : Params} {h : Heap} : ∀ (ns : List Int) (vs : List Value), WellAll P h vs (ns.map WData.int) → IntsAre vs ns := by
 intro ns
 induction ns with
 | nil =>
   intro vs w
   rw [List.map_nil] at w
   cases w
   exact .nil
 | cons n ns ih =>
   intro vs w
   rw [List.map_cons] at w
   cases w with
   | cons a b =>
     cases a
     exact .cons _ _ (ih _ b)
theorem Qhp {l : OpenLaw} {n : Nat} (hn : l.most = some n) {P : Params} {h : Heap} {args : List WData} {vals : List Value}
 (hpre : l.row.toRowW.claim.pre args = true) (hwl : WellAll P h vals args) :
 ∃ a vs ns, vals = [Value.ref a] ∧ args = [WData.list (ns.map WData.int)] ∧ h.get? a = some { cls := .type "list", data := .seq vs.toArray } ∧ IntsAre vs ns ∧ ns.length ≤ n := by
 have hsh : WShape.hasAll [] args [.list .int] = true := (pre_splitW hpre).1
 have hc : l.pre.holds [] { args := args } = true := (pre_splitW hpre).2
 obtain ⟨d, r, rfl, h1, h2⟩ := hasAllW_cons hsh
 obtain rfl := hasAllW_nil h2
 obtain ⟨xs, rfl, h3⟩ := hasW_list h1
 obtain ⟨ns, rfl⟩ := items_int h3
 have hlen : ns.length ≤ n := by
  unfold OpenLaw.pre at hc
  have h4 : (WTm.not (.lt (.lit (.int (n : Int))) (.len (.arg 0)))).holds [] { args := [.list (ns.map .int)] } = true := by
   have h4 := (holds_andW hc).1
   rw [hn] at h4
   exact h4
  have h5 := condW_of h4 (w_not (w_lt w_lit (w_len_list (w_arg rfl))))
  rw [List.length_map] at h5
  refine Nat.le_of_not_lt fun q => ?_
  have q' : (n : Int) < ((ns.length : Nat) : Int) := by omega
  first
   | (rw [decide_eq_true q'] at h5; exact absurd h5 (by decide))
   | (simp at h5; omega)
 cases hwl with
 | cons w1 w2 =>
   cases w2
   cases w1 with
   | list ho hall => exact ⟨_, _, ns, rfl, rfl, ho, Qdu ns _ hall, hlen⟩
theorem Qhv (l : OpenLaw) (args : List WData) : l.row.toRowW.claim.post args (.bool true) args = true :=
 postW_of (r := l.row.toRowW) (X := (true == true))
  (show WShape.has [] (.bool true) .bool = true by first | rfl | decide | simp [WShape.has, WShape.arms, WShape.armsAll])
  (show (WTm.eq .res (.lit (.bool true))).value [] { args := args, res := some (.bool true), after := args } = some (.bool (true == true)) from w_eq_bool (w_res rfl) w_lit) rfl
section
variable {prog : Program} {w : World} {A : Around} {E : Q0} {s : Shared} {K : Frag}
end
end Att
namespace L2
open PySem PySem.Spec PyProof.Rows
theorem Qeu : ∀ {vs : List Value} {ns : List Int}, IntsAre vs ns → Vals (ns.map V.int) vs
 | _, _, .nil => .nil
 | _, _, .cons n t h => .cons ⟨t, rfl⟩ (Qeu h)
def Only (H : Hp) : Prop := ∀ b, H b = none ∨ ∃ o xs, H b = some (.frz o (.lst xs))
theorem Qj4 {P : Program} {w : World} {K : Q4} {mg mb : Str → Option Value} {CX : CXT} {k : Nat} {fa a : Addr} {fd : FuncData} {x : Str} {sp : Sp} {s₁ : Shared} {vs : List Value} {ns : List Int}
 (KX : K.In s₁.heap) (hns : s₁.heap.Ns mainGlobals mg) (hb : s₁.heap.Ns builtinsNs mb) (hbb : ∀ x : Str, x ≠ "__name__" → mb x = bootBuiltins x) (hlim : s₁.heap.NoLimit) (hg : s₁.gens = #[])
 (ha : s₁.heap.get? a = some { cls := .type "list", data := .seq vs.toArray }) (hi : IntsAre vs ns) (hl : ns.length ≤ sizeLine) (hr : Room true k callerA)
 (F : ∀ base : Heap, K.In base → base.Ns mainGlobals mg → FnOk P w K mg base CX true k fa fd [x] sp) (hbind : ∀ (s : Shared) (u : Value), BindsTo s fd ⟨[u], []⟩ [(x, u)])
 (hsp : ∀ H : Hp, Only H → SqL K H a (ns.map V.int) → sp [.ref a] H (fun v _ => v = .bl true) fun _ _ _ => False)
 (hCX : ∀ H e s', CX [] H s₁ (fun _ _ _ => False) e s' → False) :
 codeAny (model P w) callerA (.call (.ref fa) ⟨[.ref a], []⟩) (fun r s' => r = .ok (.ret (.bool true)) ∧ OldK s₁.heap s'.heap ∧ s'.os = s₁.os ∧ AllBare s'.gens) s₁ := by
 have rv := Qeu hi
 have lenV := hi.length
 have core : ∀ H : Hp, Only H → SqL K H a (ns.map V.int) → HOk P w H s₁.heap → (∀ b, H b ≠ none → b = a) → (H a ≠ none → K.lookup a = none) →
  codeAny (model P w) callerA (.call (.ref fa) ⟨[.ref a], []⟩) (fun r s' => r = .ok (.ret (.bool true)) ∧ OldK s₁.heap s'.heap ∧ s'.os = s₁.os ∧ AllBare s'.gens) s₁ := by
  intro H hO hS hok hA hK
  have base_of : ∀ {b : Addr} {o : Obj}, s₁.heap.get? b = some o → H b = none → (hidT s₁.heap H).get? b = some o := fun e n => Qka e n
  have noA : ∀ {b : Addr} {o : Obj} {es : Array DictEntry} {ep : Nat}, s₁.heap.get? b = some o → o.data = .dict es ep → H b = none := fun {b o es ep} e d => by
   cases q : H b with
   | none => rfl
   | some u =>
     have e' : b = a := hA b (by rw [q]; simp)
     subst e'
     rw [ha] at e; cases e
     have d' : Data.seq vs.toArray _ = Data.dict es ep := d
     cases d'
  have nsK : ∀ {b : Addr} {m : Str → Option Value}, s₁.heap.Ns b m → (hidT s₁.heap H).Ns b m := fun {b m} ⟨o, es, ep, e, d, r⟩ => ⟨o, es, ep, base_of e (noA e d), d, r⟩
  have hKb : K.In (hidT s₁.heap H) := fun b o e => base_of (KX b o e) (by
   cases q : H b with
   | none => rfl
   | some u =>
     have e' : b = a := hA b (by rw [q]; simp)
     subst e'
     rw [hK (by rw [q]; simp)] at e; cases e)
  have hM : Mod K mg (hidT s₁.heap H) := ⟨hKb, nsK hns, ⟨mb, nsK hb, hbb⟩, let ⟨mc, h1, h2⟩ := hlim; ⟨mc, nsK h1, h2⟩⟩
  have e0 : Env0 P w K mg (hidT s₁.heap H) callerA [] s₁ H := ⟨rfl, hM, fun b o e => Ql0 e, Nat.le_of_eq (Qiq _ _), trivial, fun b hb => absurd (show b ∈ ([] : List Addr) from hb) (by simp), hok, .of_eq hg⟩
  refine codeAny_mono ((F _ hKb (nsK hns)).run callerA [] s₁ H ⟨[.ref a], []⟩ [.ref a] [.ref a] _ _ hr e0 (hbind s₁ (.ref a)) (.cons rfl .nil) (hsp H hO hS)) fun r s' h => ?_
  cases r with
  | error e => exact (hCX H e s' h).elim
  | ok fl =>
    cases fl with
    | next => exact False.elim h
    | brk => exact False.elim h
    | cont => exact False.elim h
    | ret u =>
      obtain ⟨v, H', os, bare, un, hok', r', q⟩ := h
      have q' : v = .bl true := q
      subst q'
      obtain rfl : u = Value.bool true := r'
      refine ⟨rfl, OldK.of_keep fun b o e => ?_, os, bare⟩
      cases q : H b with
      | none => exact un.keep b o e q (by intro z; exact absurd (show b ∈ ([] : List Addr) from z) (by simp)) (by simp)
      | some u =>
        rcases hO b with z | ⟨ob, xs, z⟩
        ·rw [q] at z; cases z
        ·have z2 := un.frzs b ob _ z
         obtain ⟨e1, _⟩ := hok b _ z
         obtain ⟨e2, _⟩ := hok' b _ z2
         rw [e] at e1; cases e1
         exact e2
 cases hk : K.lookup a with
 | some o =>
   have e := KX a o hk
   rw [ha] at e
   cases e
   refine core (fun _ => none) (fun _ => .inl rfl) (.inr ⟨_, vs.toArray, _, hk, rfl, rfl, rfl, by rw [List.size_toArray, lenV]; exact hl, by simpa using rv⟩) (fun b u z => by have z' : (none : Option HO) = some u := z; cases z') (fun b z => absurd rfl z) fun z => absurd rfl z
 | none =>
   refine core (fun b => if b = a then some (.frz { cls := .type "list", data := .seq vs.toArray } (.lst (ns.map V.int))) else none) (fun b => ?_) (.inl (.inr ⟨{ cls := .type "list", data := .seq vs.toArray }, if_pos rfl⟩)) (fun b u z => ?_) (fun b z => ?_) fun _ => hk
   ·by_cases hb : b = a
    ·exact .inr ⟨_, _, if_pos hb⟩
    ·exact .inl (if_neg hb)
   ·by_cases hb : b = a
    ·have z' := (if_pos hb).symm.trans z
     cases z'
     subst hb
     exact ⟨ha, by rw [List.length_map]; exact hl, vs, _, rv, ha⟩
    ·have z' := (if_neg hb).symm.trans z
     cases z'
   ·by_cases hb : b = a
    ·exact hb
    ·exact absurd (if_neg hb) z
end L2
namespace L2
open PySem PySem.Spec PyProof.Rows
end L2
namespace L2
open PySem PySem.Spec PyProof.Rows
def defArgs (s : Stmt) : Arguments := match s with
 | .FunctionDef _ a _ _ _ _ _ _ _ _ => a
 | _ => { posonlyargs := [], args := [], vararg := none, kwonlyargs := [], kw_defaults := [], kwarg := none, defaults := [] }
def defBody (s : Stmt) : List Stmt := match s with
 | .FunctionDef _ _ b _ _ _ _ _ _ _ => b
 | _ => []
def defScope (s : Stmt) : Scope := match s with
 | .FunctionDef _ _ _ _ _ _ sc _ _ _ => sc
 | _ => { kind := .function, names := [], isGenerator := false, isCoroutine := false }
abbrev CX0 : CXT := fun _ _ _ _ _ _ => False
abbrev E0 : XK := fun _ _ _ => False
theorem pass0 {X : Cx} : Passes CX0 X E0 := fun _ _ _ _ _ _ _ h => h.elim
structure Fun (K : Q4) (x qual : Str) (st : Stmt) (f : Addr) (fd : FuncData) : Prop where
 ex : ∃ (oc : Value) (od : Option Addr) (kV doc pm : Value) (an : Option Addr) (cdv ct : Value) (osl : Array Q5),
  fd = fnOf x qual (defArgs st) (defBody st) (defScope st) .none kV doc pm an cdv ct ∧ K.lookup f = some ⟨oc, od, .func fd, osl⟩ ∧ codeIn K cdv qual = true
 kp : keepIn K (.ref f) = true
section
variable {P : Program} {w : World} {K : Q4} {mg : Str → Option Value} {base : Heap}
end
theorem Qmf {cm : Bool} {A : Around} {k : Nat} (hr : Room cm k A) : A.units + 1 < cLine := Nat.lt_of_le_of_lt (Nat.add_le_add_left (by decide : 1 ≤ 64) _) hr.units
section
variable {X : Cx}
theorem pv (i : Nat) {x : Str} {pos : Pos} (hN : X.N[i]? = some x := by rfl) (hv : Vis X.env.scope x := by first | exact Or.inl rfl | exact Or.inr (Or.inl rfl) | exact Or.inr (Or.inr rfl)) (hd : (x == ("__debug__" : Str)) = false := by decide)
 (hcd : (x == ("__classdict__" : Str)) = false := by decide) : PE X (.Name x pos) (tVar i) := pe_var hN hv hd hcd
end
theorem iteF {A B : Prop} (h : B) : if false = true then A else B := by
 rw [if_neg Bool.false_ne_true]
 exact h
theorem iteT {A B : Prop} (h : A) : if true = true then A else B := by
 rw [if_pos rfl]
 exact h
def Same (H H' : Hp) : Prop := ∀ b o, H b = some o → H' b = some o
theorem Same.trans {H H1 H2 : Hp} (a : Same H H1) (b : Same H1 H2) : Same H H2 := fun c o h => b c o (a c o h)
theorem Same.free {H H' : Hp} (e : Same H H') {l : Addr} (h : H' l = Option.none) : H l = Option.none := by
 cases q : H l with
 | none => rfl
 | some o =>
   rw [e l o q] at h
   cases h
theorem Same.seq {K : Q4} {H H' : Hp} {a : Addr} {xs : List V} (e : Same H H') (h : SqL K H a xs) : SqL K H' a xs := by
 rcases h with (h | ⟨o, h⟩) | h
 ·exact .inl (.inl (e _ _ h))
 ·exact .inl (.inr ⟨o, e _ _ h⟩)
 ·exact .inr h
section
variable {κ : Type} [DecidableEq κ]
end
end L2
namespace L3
open PySem
structure Aft (S ch : List Addr) (h h' : Heap) : Prop where
 keep : ∀ b o, b ∉ S → b ∉ ch → h.get? b = some o → h'.get? b = some o
 slot : ∀ b o, b ∉ ch → h.get? b = some o → ∃ sl, h'.get? b = some { o with slots := sl }
 size : h.objs.size ≤ h'.objs.size
theorem Aft.trans {S ch : List Addr} {h1 h2 h3 : Heap} (a : Aft S ch h1 h2) (b : Aft S ch h2 h3) : Aft S ch h1 h3 where
 keep := fun c o hs hc e => b.keep c o hs hc (a.keep c o hs hc e)
 slot := fun c o hc e => by
  obtain ⟨s1, e1⟩ := a.slot c o hc e
  obtain ⟨s2, e2⟩ := b.slot c _ hc e1
  exact ⟨s2, e2⟩
 size := Nat.le_trans a.size b.size
section
variable {M : Model} {A : Around} {E : Q0} {s : Shared}
end
end L3
namespace L3
open PySem
def Rds {α : Type} (M : Model) (h : Heap) (t : Sem α) (r : α) : Prop :=
 ∀ (A : Around) (Q : α → Shared → Prop) (E : Q0) (s : Shared), (∀ b o, h.get? b = some o → s.heap.get? b = some o) → Q r s → wpAny M A t Q E s
structure XC (h : Heap) (C : Addr) (bm : List Value) : Prop where
 at_ : ∃ nm q N bs sn sub ab col dd k0 k1 k2 k3 k5, h.get? C = some (excClassObj nm q C N bs bm true sn sub ab col dd k0 k1 k2 k3 k5 "ValueError.__new__")
 val : bm.contains (.type "ValueError") = true
 bas : bm.contains (.type "BaseException") = true
 ob : bm.contains (.type "object") = true
 noA : bm.contains (.type "AttributeError") = false
 noN : bm.contains (.type "NameError") = false
theorem XC.keeps {h h' : Heap} {C : Addr} {bm : List Value} (x : XC h C bm) (k : ∀ b o, h.get? b = some o → h'.get? b = some o) : XC h' C bm := by
 obtain ⟨⟨nm, q, N, bs, sn, sub, ab, col, dd, k0, k1, k2, k3, k5, e⟩, h1, h2, h3, h4, h5⟩ := x
 exact ⟨⟨nm, q, N, bs, sn, sub, ab, col, dd, k0, k1, k2, k3, k5, k _ _ e⟩, h1, h2, h3, h4, h5⟩
theorem Qgz {C : Addr} {bm : List Value} {T : String} {b : Bool} (h : bm.contains (.type T) = b) : (Value.ref C :: bm).contains (.type T) = b := by
 rw [List.contains_cons, h]
 cases b <;> rfl
section
variable {P : Program} {w : World} {A : Around} {E : Q0} {h : Heap} {g : Array GenState} {d : Drawn} {t : Nat} {os : OsState} {C : Addr} {bm : List Value}
end
end L3
namespace L3
open PySem
section
variable {P : Program} {w : World} {A : Around} {E : Q0} {h : Heap} {g : Array GenState} {d : Drawn} {t : Nat} {os : OsState} {C : Addr} {bm : List Value}
end
end L3
namespace L3
open PySem
section
variable {P : Program} {w : World} {A : Around} {E : Q0} {h h' : Heap} {g : Array GenState} {d : Drawn} {t : Nat} {os : OsState} {C : Addr} {bm : List Value}
end
end L3
namespace L3
open PySem Builtin Builtin.ObjectAttr
section
variable {P : Program} {w : World} {A : Around} {E : Q0} {h : Heap} {g : Array GenState} {d : Drawn} {t : Nat} {os : OsState} {C x : Addr} {bm : List Value}
 {mA : Str → Option Value} {name : Str} {v : Value} {B : String} {bmB : List Value}
theorem Rds.go {α : Type} {M : Model} {r : α} {u : Sem α} {s : Shared} {Q : α → Shared → Prop} (l : Rds M h u r) (k : ∀ b o, h.get? b = some o → s.heap.get? b = some o) (q : Q r s) : wpAny M A u Q E s := l A Q E s k q
end
end L3
namespace L3
open PySem Builtin Builtin.ObjectAttr
section
variable {P : Program} {w : World} {A : Around} {E : Q0} {h : Heap} {g : Array GenState} {d : Drawn} {t : Nat} {os : OsState} {C x dx : Addr} {bm : List Value}
 {mA : Str → Option Value} {name : Str} {v : Value} {o : Obj} {vs : Array Value}
theorem Qis {M : Model} {nameV : Value} {Q : Unit → Shared → Prop} (xc : XC h C bm) (hx : h.get? x = some o) (hc : o.cls = .ref C) (hq : Q () ⟨h, g, d, t, os⟩) :
 wpAny M A (checkBuiltinCall "BaseException.__getattribute__" ⟨[.ref x, nameV], []⟩) Q E ⟨h, g, d, t, os⟩ := by
 obtain ⟨⟨nm, q, N, bs, sn, sub, ab, col, dd, k0, k1, k2, k3, k5, cC⟩, _, bas, _, _, _⟩ := xc
 have f1 : builtinKind "BaseException.__getattribute__" = some .slot := by decide+kernel
 have f2 : splitId "BaseException.__getattribute__" = some ("BaseException", "__getattribute__") := by decide+kernel
 have c1 : (Value.ref C :: bm).contains (.type "BaseException") = true := Qgz bas
 have ha := PySem.F.args_bexc_ga (.ref x) nameV
 simp only [checkBuiltinCall, f1, f2]
 refine wpAny_bind ?_
 unfold isInstance
 repeat (first
  | (with_reducible refine wpAny_loadPart_at hx ?_; rw [hc])
  | (with_reducible refine wpAny_isSubtype_exc cC ?_; rw [c1])
  | wp_step)
 exact hq
end
end L3
namespace L3
open PySem Builtin Builtin.ObjectAttr
section
variable {P : Program} {w : World} {A : Around} {E : Q0} {h : Heap} {g : Array GenState} {d : Drawn} {t : Nat} {os : OsState} {C x : Addr} {bm : List Value} {o : Obj}
theorem Qmt {R : Result → Shared → Prop} (xc : XC h C bm) (hx : h.get? x = some o) (hc : o.cls = .ref C) (hq : R (.ok (.ret (.ref C))) ⟨h, g, d, t, os⟩) :
 codeAny (model P w) A (.call (.builtin "getset_descriptor.__get__") ⟨[.builtin "object.__class__", .ref x, .ref C], []⟩) R ⟨h, g, d, t, os⟩ := by
 obtain ⟨⟨nm, q, N, bs, sn, sub, ab, col, dd, k0, k1, k2, k3, k5, cC⟩, _, _, ob, _, _⟩ := xc
 have ty : (⟨h, g, d, t, os⟩ : Shared).TypeIs (.builtin "object.__class__") "getset_descriptor" := PySem.F.typeOf_object_class
 have c1 : (Value.ref C :: bm).contains (.type (".".intercalate ("object.__class__".cutAt '.').dropLast)) = true := by
  rw [PySem.F.owner_object_class]
  exact Qgz ob
 refine codeAny_call_builtin PySem.F.slot_gs_get.plain PySem.F.entry_gs_get (PySem.F.slot_gs_get.check _ _ _ _ _ _ _ _ ty (PySem.F.args_gs_get _ _ _) ?_)
 repeat (any_goals (first
  | assumption
  | (with_reducible refine wpAny_loadPart_at hx ?_; rw [hc])
  | (with_reducible refine wpAny_isSubtype_exc cC ?_; rw [c1])
  | wp_step))
 refine ⟨Code.quiet_builtin _ (by decide+kernel), codeAny_builtin PySem.F.entry_object_class ?_⟩
 repeat (any_goals (first
  | assumption
  | (with_reducible refine wpAny_loadPart_at hx ?_; rw [hc])
  | wp_step))
theorem Qi7 {tk : Tok} {Q : PySem.Fin → Shared → Prop} (xc : XC h C bm) (lc : Rds (model P w) h (typeLookup (.ref C) "__class__") (some (.builtin "object.__class__"))) (hx : h.get? x = some o) (hc : o.cls = .ref C)
 (hq : Q (.done (.ret (.ref C))) ⟨h, g, d, t, os⟩) : wpAny (model P w) A (Builtin.«object.__getattribute__» ⟨[.ref x, .str "__class__" tk], []⟩) Q E ⟨h, g, d, t, os⟩ := by
 have ty : (⟨h, g, d, t, os⟩ : Shared).TypeIs (.builtin "object.__class__") "getset_descriptor" := PySem.F.typeOf_object_class
 have f5 := PySem.F.typeOf_object_class
 have f6 := PySem.F.slot_gs_get.lookup
 have f7 := PySem.F.slot_gs_set.lookup
 repeat (any_goals (first
  | assumption
  | (with_reducible refine wpAny_loadPart_at hx ?_; rw [hc])
  | with_reducible refine Rds.go lc (fun _ _ z => z) ?_
  | wp_step))
 refine Qmt xc hx hc ?_
 repeat (any_goals (first | assumption | wp_step))
theorem Qki {Q : Option Value → Shared → Prop} (FB : ExcAttrFacts "ValueError") (xc : XC h C bm) (lg : Rds (model P w) h (typeLookup (.ref C) "__getattribute__") (some (.builtin "BaseException.__getattribute__")))
 (lh : Rds (model P w) h (typeLookup (.ref C) "__getattr__") none) (lc : Rds (model P w) h (typeLookup (.ref C) "__class__") (some (.builtin "object.__class__"))) (hx : h.get? x = some o) (hc : o.cls = .ref C)
 (hq : Q (some (.ref C)) ⟨h, g, d, t + 1, os⟩) : wpAny (model P w) A (getAttr? (.ref x) "__class__") Q E ⟨h, g, d, t, os⟩ := by
 have f3 := FB.ga.bind (.ref x)
 have e0 : (false && onTheHeap (Value.builtin "BaseException.__getattribute__")) = false := rfl
 have e2 : (Value.builtin "BaseException.__getattribute__" == Value.builtin "object.__getattribute__") = false := by decide+kernel
 have e1 : (onTheHeap (Value.ref C) && Value.builtin "BaseException.__getattribute__" == Value.builtin "object.__getattribute__") = false := by rw [e2]; rfl
 unfold getAttr? getAttrBy?
 repeat (any_goals (first
  | assumption
  | (with_reducible refine wpAny_loadPart_at hx ?_; rw [hc])
  | with_reducible refine Rds.go lg (fun _ _ z => z) ?_
  | with_reducible refine Rds.go lh (fun _ _ z => z) ?_
  | wp_step))
 refine codeAny_call_builtin FB.ga.plain PySem.F.entry_bexc_ga (Qis xc hx hc (Qi7 xc lc hx hc ?_))
 repeat (any_goals (first | assumption | wp_step))
end
end L3
namespace L2
open PySem PySem.Spec PyProof.Rows L3
def onlyVal : List Value → Bool
 | .ref _ :: r => onlyVal r
 | l => l == [.type "ValueError", .type "Exception", .type "BaseException", .type "object"]
def bmOf (K : Q4) (C : Addr) : List Value := match K.lookup C with
 | some ⟨_, _, .cls cd, _⟩ => cd.mro.tail
 | _ => []
def xclsIn (K : Q4) (C : Addr) : Bool := match K.lookup C with
 | some ⟨.type "type", _, .cls cd, sl⟩ => (match cd.mro, sl.toList with
   | .ref C' :: bm, [_, _, _, _, some (.builtin n), _] => C' == C && !cd.hasDel && cd.hasDict && n == "ValueError.__new__" && bm.contains (.type "ValueError") && bm.contains (.type "BaseException") && bm.contains (.type "object") && !bm.contains (.type "AttributeError") && !bm.contains (.type "NameError") && onlyVal bm
   | _, _ => false)
 | _ => false
theorem xc_of {K : Q4} {h : Heap} {C : Addr} (X : K.In h) (q : xclsIn K C = true) : XC h C (bmOf K C) ∧ onlyVal (bmOf K C) = true := by
 unfold xclsIn at q
 split at q
 ·rename_i dd cd sl ho
  split at q
  ·rename_i C' bm k0 k1 k2 k3 n k5 hm hs
   simp only [Bool.and_eq_true, beq_iff_eq, Bool.not_eq_true'] at q
   obtain ⟨⟨⟨⟨⟨⟨⟨⟨⟨rfl, hdel⟩, hhd⟩, rfl⟩, hv⟩, hb⟩, hob⟩, hA⟩, hN⟩, ho'⟩ := q
   have eb : bmOf K C' = bm := by
    unfold bmOf
    rw [ho]
    show cd.mro.tail = bm
    rw [hm]
    rfl
   obtain ⟨nm, bs, mro, ns, qn, hd, sn, sub, ab, col, del⟩ := cd
   dsimp only at hm hdel hhd
   subst hm hdel hhd
   have hsl : sl = #[k0, k1, k2, k3, some (.builtin "ValueError.__new__"), k5] := by
    obtain ⟨l⟩ := sl
    simp only at hs
    rw [hs]
   subst hsl
   rw [eb]
   exact ⟨⟨⟨nm, qn, ns, bs, sn, sub, ab, col, dd, k0, k1, k2, k3, k5, X _ _ ho⟩, hv, hb, hob, hA, hN⟩, ho'⟩
  ·cases q
 ·cases q
structure XCls (K : Q4) (C : Addr) : Prop where
 sh : xclsIn K C = true
 ga : PySem.W.findIn K (.ref C) "__getattribute__" = some (some (.builtin "BaseException.__getattribute__"))
 gh : PySem.W.findIn K (.ref C) "__getattr__" = some none
 sa : PySem.W.findIn K (.ref C) "__setattr__" = some (some (.builtin "object.__setattr__"))
 cl : PySem.W.findIn K (.ref C) "__class__" = some (some (.builtin "object.__class__"))
theorem Qht {K : Q4} {M : Model} {h : Heap} {C : Addr} {name : Str} {r : Option Value} (X : K.In h) (e : PySem.W.findIn K (.ref C) name = some r) : Rds M h (typeLookup (.ref C) name) r := PySem.W.looks_findIn X e
theorem XCls.xc {K : Q4} {h : Heap} {C : Addr} (c : XCls K C) (X : K.In h) : XC h C (bmOf K C) := (xc_of X c.sh).1
section
variable {X : Cx} {pins : Q3} {σ : St} {H : Hp} {s : Shared} {h' : Heap}
end
section
variable {X : Cx}
end
end L2
namespace L2
open PySem PySem.Spec PyProof.Rows L3
section
variable {X : Cx} {x : Str} {C : Addr} {np cpos pos : Pos} {e : Expr} {es : List Expr} {ta : TA} {R : St → Prop} {Ek : XK}
end
section
variable {X : Cx} {cm : Bool} {k : Nat} {f C : Addr} {fd : FuncData} {ps : List Str} {sp : Sp} {dvs : List V} {ds : List Value} {E : XK} {R : St → Prop} {x m : Str} {p pos apos : Pos} {e o : Expr} {es : List Expr} {ta : TE} {t : TA}
end
structure FunD (K : Q4) (x qual : Str) (st : Stmt) (f : Addr) (fd : FuncData) (dV : Value) : Prop where
 ex : ∃ (oc : Value) (od : Option Addr) (kV doc pm : Value) (an : Option Addr) (cdv ct : Value) (osl : Array Q5),
  fd = fnOf x qual (defArgs st) (defBody st) (defScope st) dV kV doc pm an cdv ct ∧ K.lookup f = some ⟨oc, od, .func fd, osl⟩ ∧ codeIn K cdv qual = true
 kp : keepIn K (.ref f) = true
section
variable {P : Program} {w : World} {K : Q4} {mg : Str → Option Value} {base : Heap} {cm : Bool}
theorem FunD.ok {x qual : Str} {st : Stmt} {f : Addr} {fd : FuncData} {dV : Value} {N ps : List Str} {k : Nat} {sp : Sp} (F : FunD K x qual st f fd dV) (S : FnScope N ps (defScope st)) (len : ∀ vs H Q E, sp vs H Q E → vs.length = ps.length)
 (hbody : ∀ (cdv : Value) (A : Around) (outer : List Env) (s : Shared) (H : Hp) (vs : List V) (Q : VK) (E : XK), Room cm k (A.deeper (envOfC qual (defScope st) s.heap.objs.size f cdv)) → sp vs H Q E →
  ∃ t, PSs (cxOf CX0 cm P w K mg base N qual (defScope st) f cdv A outer s H E).nox (defBody st) t ∧ t { nx := fun _ H' => Q .non H', rt := Q } (start N vs) H) : FnOk P w K mg base CX0 cm (k + 1) f fd ps sp := by
 obtain ⟨oc, od, kV, doc, pm, an, cdv, ct, osl, rfl, lk, hcd⟩ := F.ex
 refine fn_of lk hcd S len fun A outer s H vs Q E hr hsp => ?_
 obtain ⟨t, h, q⟩ := hbody cdv A outer s H vs Q E hr hsp
 exact ⟨t, h.nox, q⟩
theorem FunD.binds {x qual : Str} {st : Stmt} {f : Addr} {fd : FuncData} {dV : Value} {ps : List Str} (F : FunD K x qual st f fd dV)
 (h : ∀ (kV doc pm : Value) (an : Option Addr) (cdv ct : Value) (us : List Value), us.length = ps.length → bindArgs (fnOf x qual (defArgs st) (defBody st) (defScope st) dV kV doc pm an cdv ct) ⟨us, []⟩ = pure (ps.zip us)) : Binds K fd ps [] := by
 obtain ⟨oc, od, kV, doc, pm, an, cdv, ct, osl, rfl, lk, hcd⟩ := F.ex
 exact .all (h kV doc pm an cdv ct)
theorem FunD.b1 {x qual : Str} {st : Stmt} {f : Addr} {fd : FuncData} {dV : Value} {ps : List Str} (F : FunD K x qual st f fd dV) (h : ∀ (kV doc pm : Value) (an : Option Addr) (cdv ct : Value) (us : List Value), us.length = ps.length → bindArgs (PySem.W.fnOf x qual (defArgs st) (defBody st) (defScope st) dV kV doc pm an cdv ct) ⟨us, []⟩ = pure (ps.zip us) := by exact fun _ _ _ _ _ _ us hl => match us, hl with | [_], _ => rfl) : Binds K fd ps [] := F.binds h
theorem FunD.b2 {x qual : Str} {st : Stmt} {f : Addr} {fd : FuncData} {dV : Value} {ps : List Str} (F : FunD K x qual st f fd dV) (h : ∀ (kV doc pm : Value) (an : Option Addr) (cdv ct : Value) (us : List Value), us.length = ps.length → bindArgs (PySem.W.fnOf x qual (defArgs st) (defBody st) (defScope st) dV kV doc pm an cdv ct) ⟨us, []⟩ = pure (ps.zip us) := by exact fun _ _ _ _ _ _ us hl => match us, hl with | [_, _], _ => rfl) : Binds K fd ps [] := F.binds h
theorem FunD.b3 {x qual : Str} {st : Stmt} {f : Addr} {fd : FuncData} {dV : Value} {ps : List Str} (F : FunD K x qual st f fd dV) (h : ∀ (kV doc pm : Value) (an : Option Addr) (cdv ct : Value) (us : List Value), us.length = ps.length → bindArgs (PySem.W.fnOf x qual (defArgs st) (defBody st) (defScope st) dV kV doc pm an cdv ct) ⟨us, []⟩ = pure (ps.zip us) := by exact fun _ _ _ _ _ _ us hl => match us, hl with | [_, _, _], _ => rfl) : Binds K fd ps [] := F.binds h
theorem FunD.b4 {x qual : Str} {st : Stmt} {f : Addr} {fd : FuncData} {dV : Value} {ps : List Str} (F : FunD K x qual st f fd dV) (h : ∀ (kV doc pm : Value) (an : Option Addr) (cdv ct : Value) (us : List Value), us.length = ps.length → bindArgs (PySem.W.fnOf x qual (defArgs st) (defBody st) (defScope st) dV kV doc pm an cdv ct) ⟨us, []⟩ = pure (ps.zip us) := by exact fun _ _ _ _ _ _ us hl => match us, hl with | [_, _, _, _], _ => rfl) : Binds K fd ps [] := F.binds h
theorem FunD.b5 {x qual : Str} {st : Stmt} {f : Addr} {fd : FuncData} {dV : Value} {ps : List Str} (F : FunD K x qual st f fd dV) (h : ∀ (kV doc pm : Value) (an : Option Addr) (cdv ct : Value) (us : List Value), us.length = ps.length → bindArgs (PySem.W.fnOf x qual (defArgs st) (defBody st) (defScope st) dV kV doc pm an cdv ct) ⟨us, []⟩ = pure (ps.zip us) := by exact fun _ _ _ _ _ _ us hl => match us, hl with | [_, _, _, _, _], _ => rfl) : Binds K fd ps [] := F.binds h
theorem Qaq {x qual : Str} {st : Stmt} {f : Addr} {oc dV : Value} {od an : Option Addr} {osl : Array Q5} {kV doc pm cdv ct : Value} (l : K.lookup f = some ⟨oc, od, .func (fnOf x qual (defArgs st) (defBody st) (defScope st) dV kV doc pm an cdv ct), osl⟩)
 (c : codeIn K cdv qual = true) (k : keepIn K (.ref f) = true) : FunD K x qual st f (fnOf x qual (defArgs st) (defBody st) (defScope st) dV kV doc pm an cdv ct) dV := ⟨⟨oc, od, kV, doc, pm, an, cdv, ct, osl, rfl, l, c⟩, k⟩
end
end L2
namespace L2
open PySem PySem.Spec PyProof.Rows L3
def excO (x : Addr) (C : Value) (dx : Option Addr) : HO := .ext fun h => ∃ o vs, h.get? x = some o ∧ o.cls = C ∧ o.dict = dx ∧ o.data = .fields vs ∧ vs[2]? = some .none
theorem Qkd {P : Program} {w : World} {H : Hp} {h : Heap} {x : Addr} {C : Value} {dx : Option Addr} (hok : HOk P w H h) (e : H x = some (excO x C dx)) : ∃ o vs, h.get? x = some o ∧ o.cls = C ∧ o.dict = dx ∧ o.data = .fields vs ∧ vs[2]? = some .none := by
 obtain ⟨q, _⟩ := (show ObjOk P w H h x (excO x C dx) from hok x _ e)
 exact q
section
variable {X : Cx} {pins pins' : Q3} {σ : St} {H : Hp} {s : Shared} {E : Q0} {D : Ends}
end
section
variable {X : Cx}
end
end L2
namespace L2
open PySem PySem.Spec PyProof.Rows L3
theorem Qj5 {K : Q4} {x C : Addr} (T : XCls K C) : PySem.W.KitX K (.ref x) (.ref C) (fun h => ∃ o, h.get? x = some o ∧ o.cls = .ref C) where
 ty := fun M h _ p => by
  obtain ⟨o, e, c⟩ := p
  exact c ▸ (PySem.W.Looks.ld e).andThen .now
 it := fun M h X _ => by
  obtain ⟨⟨nm, q, N, bs, sn, sub, ab, col, dd, k0, k1, k2, k3, k5, cC⟩, _⟩ := T.xc X
  intro A Q E s k z
  unfold isType loadHead
  exact wpAny_bind (wpAny_loadPart (k _ _ cC) (wpAny_pure z))
 ne := fun h tp dd its n sl X htp => by
  obtain ⟨⟨nm, q, N, bs, sn, sub, ab, col, dd', k0, k1, k2, k3, k5, cC⟩, _⟩ := T.xc X
  refine Bool.eq_false_iff.mpr fun z => ?_
  have e : C = tp := Value.ref.inj (beq_iff_eq.mp z)
  subst e
  rw [cC] at htp
  have z2 := congrArg Obj.data (Option.some.inj htp)
  cases z2
 ca := fun {P w A E Q s} X p k => by
  obtain ⟨o, e, c⟩ := p
  obtain ⟨h, g, d, t, os⟩ := s
  exact Qki PySem.F.excAttr_ValueError (T.xc X) (Qht X T.ga) (Qht X T.gh) (Qht X T.cl) e c k
inductive TyX (K : Q4) (H : Hp) : V → Value → Prop where
 | of {x : V} {t : Value} (e : TyOf K H x t) : TyX K H x t
 | exc {a C : Addr} {dx : Option Addr} (e : H a = some (excO a (.ref C) dx)) (T : XCls K C) : TyX K H (.ref a) (.ref C)
def clsV : V → Option Value
 | .ty n => some (.type n)
 | .ref a => some (.ref a)
 | _ => none
theorem Qmu {c : V} {u t : Value} (e : clsV c = some u) (r : RelV c t) : t = u := by
 cases c with
 | ty n => cases e; exact r
 | ref a => cases e; exact r
 | _ => cases e
def rIs (K : Q4) : List V → Hp → VK → Prop := fun xs H Q => ∃ x c t u b, xs = [x, c] ∧ TyX K H x t ∧ clsV c = some u ∧ PySem.W.kitOne K t u = some b ∧ Q (.bl b) H
section
variable {X : Cx}
theorem Qf4 : CallR X (.builtin "isinstance") (rIs X.K) := by
 intro pins s σ H xs us Q I r h
 obtain ⟨x, c, t, u, b, rfl, ty, hc, e, q⟩ := h
 cases r with
 | cons r1 r2 =>
   cases r2 with
   | cons r2 r3 =>
     cases r3
     rename_i v1 v2
     rw [Qmu hc r2]
     cases ty with
     | of ty => exact Qii I r1 ty e fun tk => ⟨.bl b, H, I.tok _, rfl, q⟩
     | @exc a C dx ea T =>
       cases (show v1 = Value.ref a from r1)
       obtain ⟨o, vs, e1, e2, _⟩ := Qkd I.hok ea
       exact PySem.W.kia_one (Qj5 T) I.kIn ⟨o, e1, e2⟩ e (fun z => nomatch z) fun tk => ⟨.bl b, H, I.tok _, rfl, q⟩
end
section
variable {X : Cx} {e : Expr} {f : Str} {pos : Pos} {ta : TE}
end
end L2
namespace L2
open PySem PySem.Spec PyProof.Rows L3
section
variable {X : Cx} {pins : Q3} {σ : St} {H : Hp} {s : Shared} {A : Around} {E : Q0} {a C : Addr} {f : Str} {y : V} {u : Value} {Q : Unit → Shared → Prop}
end
section
variable {X : Cx} {o value : Expr} {f : Str} {pos pos' : Pos} {ta tv : TE}
end
section
variable {X : Cx} {cm : Bool} {k : Nat} {fI : Addr} {fd : FuncData} {ps : List Str} {sp : Sp} {x : Str} {C : Addr} {np cpos pos : Pos} {e : Expr} {es : List Expr} {ta : TA} {R : St → Prop} {Ek : XK}
end
end L2
namespace L2
open PySem PySem.Spec PyProof.Rows L3
section
variable {X : Cx}
theorem Qav : OpR X (binaryOp .Mult) (rI IntMulOk fun i j => .int (i * j)) := opI fun _ _ _ _ _ _ _ hc q => mul_int q hc
theorem Qb5 : OpR X (binaryOp .FloorDiv) (rI (fun _ j => j ≠ 0 ∧ j.natAbs.log2 < 9000) fun i j => .int (i.fdiv j)) := opI fun _ _ _ _ _ _ _ hc q => floordiv_int hc.1 q (.inl (PyProof.noPylong_of_log2 hc.2))
theorem Qfe : CallR X (.builtin "abs") (fun xs H Q => ∃ i : Int, xs = [.int i] ∧ Q (.int (i.natAbs : Nat)) H) := by
 intro pins s σ H xs us Q I r h
 obtain ⟨i, rfl, q⟩ := h
 obtain ⟨u, rfl, t, rfl⟩ := vals1 r
 have e : (if i < 0 then -i else i) = ((i.natAbs : Nat) : Int) := by split <;> omega
 exact call_abs_int fun u tk => ⟨.int (if i < 0 then -i else i), H, I.tok _, ⟨_, rfl⟩, by rw [e]; exact q⟩
end
theorem Qjd {x : Int} (lo : -(2 ^ 250 * 2 ^ 250 * 2 ^ 250 * 2 ^ 250) ≤ x) (hi : x ≤ 2 ^ 250 * 2 ^ 250 * 2 ^ 250 * 2 ^ 250) : Builtin.Int.intBits x ≤ 1001 := by
 refine PySem.intBits_le_iff.mpr ?_
 have e : (2 : Nat) ^ 1001 = 2 ^ 250 * 2 ^ 250 * 2 ^ 250 * 2 ^ 250 * 2 := by
  rw [show (1001 : Nat) = 250 + 250 + 250 + 250 + 1 from rfl, Nat.pow_add, Nat.pow_add, Nat.pow_add, Nat.pow_add]
 rw [e]
 omega
theorem Qdi {x y : Int} (l1 : -(2 ^ 250 * 2 ^ 250 * 2 ^ 250 * 2 ^ 250) ≤ x) (h1 : x ≤ 2 ^ 250 * 2 ^ 250 * 2 ^ 250 * 2 ^ 250) (l2 : -(2 ^ 250 * 2 ^ 250 * 2 ^ 250 * 2 ^ 250) ≤ y) (h2 : y ≤ 2 ^ 250 * 2 ^ 250 * 2 ^ 250 * 2 ^ 250) : IntMulOk x y :=
 PySem.IntMulOk.of_le (Qjd l1 h1) (Qjd l2 h2) (by decide)
theorem decT {p : Prop} [Decidable p] {A B : Prop} (h : p) (k : A) : if decide p = true then A else B := by rw [if_pos (decide_eq_true h)]; exact k
theorem decF {p : Prop} [Decidable p] {A B : Prop} (h : ¬ p) (k : B) : if decide p = true then A else B := by rw [if_neg (by simpa using h)]; exact k
theorem dec2 {p : Prop} [Decidable p] {A B : Prop} (h1 : p → A) (h2 : ¬ p → B) : if decide p = true then A else B := by
 by_cases h : p
 ·exact decT h (h1 h)
 ·exact decF h (h2 h)
theorem ndecT {p : Prop} [Decidable p] {A B : Prop} (h : ¬ p) (k : A) : if (!decide p) = true then A else B := by rw [if_pos (by simp [h])]; exact k
theorem ndecF {p : Prop} [Decidable p] {A B : Prop} (h : p) (k : B) : if (!decide p) = true then A else B := by rw [if_neg (by simp [h])]; exact k
theorem ndec2 {p : Prop} [Decidable p] {A B : Prop} (h1 : ¬ p → A) (h2 : p → B) : if (!decide p) = true then A else B := by
 by_cases h : p
 ·exact ndecF h (h2 h)
 ·exact ndecT h (h1 h)
end L2
namespace L2
open PySem PySem.Spec PyProof.Rows L3
theorem Qa1 : bootBuiltins "len" = some (.builtin "len") := by decide+kernel
theorem Qli : bootBuiltins "abs" = some (.builtin "abs") := by decide+kernel
theorem Qce : bootBuiltins "isinstance" = some (.builtin "isinstance") := by decide+kernel
theorem Qjb : bootBuiltins "int" = some (.type "int") := by decide+kernel
theorem Qjc : bootBuiltins "bool" = some (.type "bool") := by decide+kernel
theorem Qb8 : bootBuiltins "list" = some (.type "list") := by decide+kernel
def Def (K : Q4) (mg : Str → Option Value) (x : Str) (st : Stmt) (dV : Value) : Prop := ∃ f fd, FunD K x x st f fd dV ∧ mg x = some (.ref f)
def Cal (P : Program) (w : World) (K : Q4) (mg : Str → Option Value) (base : Heap) (CX : CXT) (cm : Bool) (k : Nat) (x : Str) (ps : List Str) (ds : List V) (sp : Sp) : Prop :=
 ∃ f fd dvs, FnOk P w K mg base CX cm k f fd ps sp ∧ mg x = some (.ref f) ∧ keepIn K (.ref f) = true ∧ Binds K fd ps [] ∧ Vals ds dvs ∧ Binds K fd ps dvs
theorem FunD.bindsD {K : Q4} {x qual : Str} {st : Stmt} {f T : Addr} {fd : FuncData} {ps : List Str} {ds : List Value} {items : Array Value} {od : Option Addr} {n : Nat} {sl : Array Q5} (F : FunD K x qual st f fd (.ref T))
 (lT : K.lookup T = some ⟨.type "tuple", od, .seq items n, sl⟩) (m : Nat) (hm : m + ds.length = ps.length)
 (h : ∀ (kV doc pm : Value) (an : Option Addr) (cdv ct : Value) (us : List Value), us.length = m →
  ∃ k, bindArgs (fnOf x qual (defArgs st) (defBody st) (defScope st) (.ref T) kV doc pm an cdv ct) ⟨us, []⟩ = seqItems? (.ref T) >>= k ∧ k (some items) = pure (ps.zip (us ++ ds))) : Binds K fd ps ds := by
 obtain ⟨oc, od', kV, doc, pm, an, cdv, ct, osl, rfl, lk, hcd⟩ := F.ex
 intro s us KX hl
 obtain ⟨k, h1, h2⟩ := h kV doc pm an cdv ct us (by rw [List.length_append] at hl; omega)
 exact BindsTo.of_defaults rfl (KX _ _ lT) rfl h1 h2
end L2
namespace L2
open PySem PySem.Spec PyProof.Rows L3
end L2
namespace L2
open PySem PySem.Spec PyProof.Rows L3
end L2
namespace L2
open PySem PySem.Spec PyProof.Rows L3
def eqPl : V → Bool
 | .byt _ => false
 | .flt _ => false
 | _ => true
theorem Qfa {A : Around} {s : Shared} {x : V} {v u : Value} (hp : eqPl x = true) (r : RelV x v) (r' : RelV x u) : SeqAt.EqAt A s v u true := by
 cases x with
 | non => cases r; cases r'; exact SeqAt.EqAt.same _
 | bl b => cases r; cases r'; exact SeqAt.EqAt.same _
 | int i =>
   obtain ⟨t, rfl⟩ := r
   obtain ⟨t', rfl⟩ := r'
   have := SeqAt.EqAt.int_int (A := A) (s := s) i t i t'
   rw [beq_self_eq_true] at this
   exact this
 | str i =>
   obtain ⟨t, rfl⟩ := r
   obtain ⟨t', rfl⟩ := r'
   have := SeqAt.EqAt.str_str (A := A) (s := s) i t i t'
   rw [beq_self_eq_true] at this
   exact this
 | byt b => cases hp
 | flt b => cases hp
 | ref a => cases r; cases r'; exact SeqAt.EqAt.same _
 | ty n => cases r; cases r'; exact SeqAt.EqAt.same _
theorem Qbx : ∀ {xs : List V} {us : List Value}, Vals xs us → ∀ j (h : j < us.length), ∃ x, xs[j]? = some x ∧ RelV x us[j] := by
 intro xs us r
 induction r with
 | nil => intro j h; cases h
 | cons r rr ih =>
   intro j h
   cases j with
   | zero => exact ⟨_, rfl, r⟩
   | succ j => exact ih j (by simpa using h)
end L2
namespace L2
open PySem PySem.Spec PyProof.Rows L3
def Cx.inC (X : Cx) (scope : Scope) (cl : List (Str × Addr)) (C : Addr) (s2 : Shared) (H2 : Hp) (fp : List Addr) (N' : List Str) (xe : Q0) : Cx :=
 { X with N := N', s₀ := s2, H₀ := H2, env := compEnvC scope cl C X.env, outer := X.stack, ex := fp, fn := fun _ => false, pn := [], xe := xe }
def tLC (wi : TI) (te : TE) (js : List Nat) : TE := fun σ H Q => wi σ H fun J H1 => ∃ W : Nat → Nat → List V → Hp → Prop, (∃ m, W 0 m [] H1) ∧ ∀ i m ys H, W i m ys H →
 (J.stop i H ∧ ∀ l, H l = none → Q (.ref l) (upd H l (.lst ys))) ∨ (J.go i H ∧ ys.length < sizeLine ∧ ∃ N : VK, (∀ y H2, N y H2 → ∃ m', m' < m ∧ W (i + 1) m' (ys ++ [y]) H2) ∧ ∀ x H', J.yld i H x H' → te (some x :: js.map (fun j => σ.getD j none)) H' N)
section
variable {X : Cx}
structure LcOk (X : Cx) (x : Str) (scope : Scope) (cl : List (Str × Addr)) (js : List Nat) : Prop where
 clos : closureFor scope X.env = pure cl
 sub : ∀ y c, cl.lookup y = some c → X.env.cells.lookup y = some c
 kind : scope.kind = .function
 cell : ∀ y ∈ scope.names, y.2 ≠ .cell
 names : ∀ y ∈ scope.names, y.2 = .local → scope.names.lookup y.1 = some .local
 loc : scope.names.lookup x = some .local
 has : ∀ y, (((relabel scope X.env).names.lookup y = some .cell) ∨ ((relabel scope X.env).names.lookup y = some .free)) → ∃ c, cl.lookup y = some c
 nd : (x :: js.map (fun j => X.N.getD j "")).Nodup
 fr : ∀ j ∈ js, ∃ y, X.N[j]? = some y ∧ X.env.kindOf y = some .cell ∧ (relabel scope X.env).names.lookup y = some .cell ∧ ∃ c, cl.lookup y = some c
theorem Inv.inC {x : Str} {scope : Scope} {cl : List (Str × Addr)} {js : List Nat} {pins : Q3} {σ : St} {H2 : Hp} {s2 : Shared} {fp : List Addr} {C D : Addr} {h1 : Heap} {xe : Q0} {oD : Obj} {m0 : Str → Option Value}
 (L : LcOk X x scope cl js) (I2 : Inv X pins σ H2 s2) (f2 : ∀ b ∈ fp, FpOk X pins H2 b) (fo : ∀ b ∈ fp, ∃ o, s2.heap.get? b = some o) (hC : s2.heap.objs.size ≤ C) (hD : s2.heap.objs.size ≤ D) (hDC : D ≠ C)
 (old : ∀ b o, s2.heap.get? b = some o → h1.get? b = some o) (hns : h1.Ns C m0) (hoD : h1.get? D = some oD) (hdD : ∀ v, oD.data ≠ .cell v) {t' : Nat} :
 Inv (X.inC scope cl C s2 H2 fp (x :: js.map (fun j => X.N.getD j "")) xe) [(D, oD)] (none :: js.map (fun j => σ.getD j none)) H2 { s2 with heap := h1, toks := t' } where
 ok := {
  mod := I2.ok.mod
  kind := L.kind
  glob := I2.ok.glob
  blt := I2.ok.blt
  above := hC
  inj := fun a b c e1 e2 => I2.ok.inj a b c (L.sub a c e1) (L.sub b c e2)
  has := fun y hy => L.has y hy
  cab := fun _ _ z => nomatch z
  hd := I2.ok.hd
  frames := I2.ok.frames
  stk := .inl rfl
  exf := fun b hb => by
   obtain ⟨o, e⟩ := fo b hb
   refine ⟨Nat.ne_of_lt (Nat.lt_of_lt_of_le (Heap.lt_size e) hC), fun y c e' => ?_⟩
   exact (f2 b hb).2.2.2.2.1 y c (L.sub y c e')
  bs := fun b o e => I2.bs b o e
  bsz := Nat.le_trans I2.ok.bsz I2.sz
  noex := fun b o e hb => by
   rcases (f2 b hb).2.2.2.1 with z | z
   ·exact I2.ok.noex b o e z
   ·exact absurd (Nat.lt_of_lt_of_le (Heap.lt_size e) (Nat.le_trans I2.ok.bsz z)) (Nat.lt_irrefl _)
  exfs := fun b hb z => by
   rcases List.mem_cons.mp (I2.stkSub b z) with e | e
   ·exact (f2 b hb).2.1 e
   ·exact (f2 b hb).2.2.1 e
  funs := I2.stack
  frf := I2.stkFree }
 os := rfl
 bare := I2.bare
 base := Un.kept old
 loc := by
  refine ⟨m0, hns, fun i y v e1 e2 e3 => ?_⟩
  cases i with
  | zero => cases e2
  | succ k =>
    have e1' : (js.map (fun j => X.N.getD j ""))[k]? = some y := e1
    have e2' : (js.map (fun j => σ.getD j none))[k]? = some (some v) := e2
    rw [List.getElem?_map] at e1' e2'
    cases hj : js[k]? with
    | none => rw [hj] at e1'; cases e1'
    | some j =>
      rw [hj] at e1' e2'
      obtain ⟨y', n1, n2, n3, c, n4⟩ := L.fr j (List.mem_of_getElem? hj)
      have e1'' : X.N.getD j "" = y := Option.some.inj e1'
      have e2'' : σ.getD j none = some v := Option.some.inj e2'
      have : y' = y := by
       rw [List.getD, n1] at e1''
       exact e1''
      subst this
      have hσ : σ[j]? = some (some v) := by
       rw [List.getD] at e2''
       cases q : σ[j]? with
       | none => rw [q] at e2''; cases e2''
       | some z => rw [q] at e2''; exact congrArg some e2''
      obtain ⟨m, hn, hl⟩ := I2.loc
      obtain ⟨u, r, l⟩ := hl j y' v n1 hσ (.inr (.inl n2))
      refine ⟨u, r, ?_⟩
      rcases l with ⟨k1, _⟩ | ⟨_, c', k2, k3⟩
      ·rw [n2] at k1; cases k1
      ·have : c' = c := by
        have := L.sub _ _ n4
        rw [k2] at this
        exact Option.some.inj this
       subst this
       obtain ⟨o, ho, hd⟩ := k3
       exact .inr ⟨.inl n3, c', n4, o, old _ _ ho, hd⟩
 cell := fun y c e => by
  obtain ⟨v, o, ho, hd⟩ := I2.cell y c (L.sub y c e)
  exact ⟨v, o, old _ _ ho, hd⟩
 free := I2.hok.fresh hC
 freeC := fun y c e => I2.freeC y c (L.sub y c e)
 pin := fun p hp => by
  have e : p = (D, oD) := by simpa [Cx.inC] using hp
  subst e
  refine ⟨hoD, I2.hok.fresh hD, hDC, fun z => ?_, hdD⟩
  rcases List.mem_cons.mp (I2.stkSub D z) with e | e
  ·exact absurd I2.lt (by rw [← e]; exact Nat.not_lt.mpr hD)
  ·exact I2.nofs hD e
 hok := I2.hok.kept old
 len := by simp [Cx.inC]
theorem Qib {elt iter : Expr} {x : Str} {px pos cpos : Pos} {scope : Scope} {cl : List (Str × Addr)} {wi : TI} {te : TE} {js : List Nat} {use : Option (Value → Sem Unit)} {Qc : Q0} {pins : Q3} {s : Shared} {σ : St} {H : Hp} {Q : VK}
 (hc : X.calm = true) (L : LcOk X x scope cl js) (hi : PI X (.Name x px) iter wi) (G : Cx → Prop)
 (he : ∀ C s2 H2 fp xe, G (X.inC scope cl C s2 H2 fp (x :: js.map (fun j => X.N.getD j "")) xe) → PE (X.inC scope cl C s2 H2 fp (x :: js.map (fun j => X.N.getD j "")) xe) elt te)
 (hG : ∀ (C D : Addr) (s2 : Shared) (H2 : Hp) (fp : List Addr), Inv X pins σ H2 s2 → (∀ b ∈ fp, FpOk X pins H2 b) → (∀ b ∈ fp, ∃ o, s2.heap.get? b = some o) → s2.heap.objs.size < C →
  G (X.inC scope cl C s2 H2 fp (x :: js.map (fun j => X.N.getD j "")) (notedBy (model X.prog X.w) X.A (compEnvC scope cl C X.env) fun e s' => compPost (model X.prog X.w) X.A X.xe use Qc (.ref D) C (.error e) s')))
 (hs : ∀ z, foldedSetIterable iter X.env z = pure z) (I : Inv X pins σ H s) (h : tLC wi te js σ H Q)
 (fin : ∀ (D C : Addr) (H4 : Hp) (s4 : Shared) (m : Str → Option Value), s4.heap.Ns C m → FpOk X pins H4 C → (∀ h', Heap.SameBut C s4.heap h' → Inv X pins σ H4 { s4 with heap := h' }) → Q (.ref D) H4 → compPost (model X.prog X.w) X.A X.xe use Qc (.ref D) C (.ok .next) s4) :
 wpAny (model X.prog X.w) X.A (comprehension (.ListComp elt [⟨.Name x px, iter, [], 0⟩] scope pos) scope X.env cpos (newList []) false (eval iter X.env) use) Qc X.xe s := by
 refine wpAny_comprehension_free (cl := cl) (use := use) rfl hs L.clos L.kind L.names ?_
 refine thn (hi pins s σ H _ I h) fun v s1 h1 => thn h1 fun itv s2 h2 => ?_
 obtain ⟨it, fp, tn, J, H2, e, I2, T, st2, f2, W, ⟨k0, w0⟩, turn⟩ := h2
 subst e
 refine wpAny_newObj_type (wpAny_newFunctionEnv L.cell (by intro y hy; simp at hy) (fun h₁ hns₁ hsb₁ => ?_) L.kind)
 dsimp only at hns₁ hsb₁ ⊢
 generalize hH2 : s2.heap.push { cls := .type "list", dict := none, data := .seq ([] : List Value).toArray } = Hp2 at hns₁ hsb₁ ⊢
 have hC : Hp2.objs.size = s2.heap.objs.size + 1 := by rw [← hH2, Heap.size_push]
 generalize hD0 : s2.heap.objs.size = D at hC ⊢
 generalize hC0 : Hp2.objs.size = C at hC hns₁ hsb₁ ⊢
 have hDC : D ≠ C := by omega
 have below : ∀ b, b < D → b ≠ C := fun b hb => by omega
 have old : ∀ b o, s2.heap.get? b = some o → h₁.get? b = some o := fun b o e =>
  hsb₁.extBut b o (below b (by rw [← hD0]; exact Heap.lt_size e)) (Heap.get?_push_of_some _ (hH2 ▸ Heap.get?_push_of_some _ e))
 have hacc : h₁.get? D = some { cls := .type "list", data := .seq ([] : List Value).toArray 0 } := by
  subst hD0
  exact hsb₁.extBut _ _ hDC (Heap.get?_push_of_some _ (hH2 ▸ Heap.get?_push_size _ rfl))
 have fo : ∀ b ∈ fp, ∃ o, s2.heap.get? b = some o := fun b hb => let ⟨o, e, _⟩ := T.obj _ _ st2 b hb; ⟨o, e⟩
 have flt : ∀ b ∈ fp, b < D := fun b hb => let ⟨o, e⟩ := fo b hb; by rw [← hD0]; exact Heap.lt_size e
 have st1 : tn 0 h₁ := T.keep _ _ _ st2 fun b hb o e => old b o e
 have gx := hG C D s2 H2 fp I2 f2 fo (by omega)
 let R := compPost (model X.prog X.w) X.A X.xe use Qc (.ref D) C
 let xe := notedBy (model X.prog X.w) X.A (compEnvC scope cl C X.env) fun e s' => R (.error e) s'
 let X' := X.inC scope cl C s2 H2 fp (x :: js.map (fun j => X.N.getD j "")) xe
 have I0 : ∀ {t' : Nat}, Inv X' [(D, _)] (none :: js.map (fun j => σ.getD j none)) H2 { s2 with heap := h₁, toks := t' } := fun {t'} =>
  Inv.inC L I2 f2 fo (by omega) (by omega) hDC old hns₁ hacc (fun v z => by cases z)
 have fpk : ∀ {pD : Q3} {H' : Hp}, (∀ p ∈ pD, p.1 = D) → (∀ b ∈ fp, H' b = none) → ∀ b ∈ fp, FpOk X' pD H' b := fun {pD H'} hp hn b hb => by
  refine ⟨hn b hb, below b (flt b hb), fun z => ?_, .inl hb, fun y c e => (f2 b hb).2.2.2.2.1 y c (L.sub y c e), fun p hp' z => ?_⟩
  ·rcases List.mem_cons.mp (I2.stkSub b z) with e | e
   ·exact (f2 b hb).2.1 e
   ·exact (f2 b hb).2.2.1 e
  ·have q := hp p (by simpa [X', Cx.inC] using hp')
   have := flt b hb
   rw [← z, q] at this
   exact Nat.lt_irrefl _ this
 have loop : ∀ s3 : Shared, (∃ k i ys H' its n σ0, Inv X' [(D, { cls := .type "list", data := .seq (its : List Value).toArray n })] (σ0 :: js.map (fun j => σ.getD j none)) H' s3 ∧ tn i s3.heap ∧ (∀ b ∈ fp, H' b = none) ∧ W i k ys H' ∧ Vals ys its ∧ ys.length ≤ sizeLine) →
  codeAny (model X.prog X.w) X.A (.compLoop (.ListComp elt [⟨.Name x px, iter, [], 0⟩] scope pos) 0 (.ref it) (.ref D) (compEnvC scope cl C X.env)) R s3 := by
  rintro s3 ⟨k, hk⟩
  refine codeAny_loop rfl (fun k s3 => ∃ i ys H' its n σ0, Inv X' [(D, { cls := .type "list", data := .seq (its : List Value).toArray n })] (σ0 :: js.map (fun j => σ.getD j none)) H' s3 ∧ tn i s3.heap ∧ (∀ b ∈ fp, H' b = none) ∧ W i k ys H' ∧ Vals ys its ∧ ys.length ≤ sizeLine) (fun k s3 hI => ?_) k hk
  obtain ⟨i, ys, H3, its, n, σ0, I3, st3, fr3, w3, vy, hz⟩ := hI
  show wpAny _ _ ((compTurn (.ListComp elt [⟨.Name x px, iter, [], 0⟩] scope pos) 0 (.ref it) (.ref D) (compEnvC scope cl C X.env)).onRaise (fun x => do noteFrame x (compEnvC scope cl C X.env); theTreesLotGoes x)) _ _ s3
  refine wpAny_noted ?_
  rw [compTurn_list1]
  have hpD : ∀ {o : Obj}, ∀ p ∈ [(D, o)], p.1 = D := fun p hp => by rw [List.mem_singleton.mp hp]
  refine wpAny_bind (wpAny_standAt (wpAny_bind ?_))
  rcases turn i k ys H3 w3 with ⟨stop, qn⟩ | ⟨go, hlen, N, hN, step⟩
  ·refine thn (T.done X' rfl rfl rfl hc i _ s3 _ H3 xe I3 (fpk hpD fr3) st3 stop) fun r s4 ⟨hr, I4⟩ => ?_
   subst hr
   refine wpAny_pure ?_
   obtain ⟨m, hn, _⟩ := I4.loc
   obtain ⟨eD, nD, _⟩ := I4.pin (D, _) (List.mem_append_right _ (List.mem_singleton.mpr rfl))
   have fC : FpOk X pins (upd H3 D (.lst ys)) C := I2.fpOk (by omega) (by
    rw [Qar (Ne.symm hDC)]
    exact I4.free)
   refine fin D C (upd H3 D (.lst ys)) s4 m hn fC (fun h' sb => ?_) (qn D nD)
   obtain ⟨hh, g, d, t, os'⟩ := s4
   obtain rfl : os' = s2.os := I4.os
   have kp : ∀ b o, b ≠ C → hh.get? b = some o → h'.get? b = some o := fun b o hb e => (sb.2 b hb).trans e
   have lt2 : ∀ b o, s2.heap.get? b = some o → b ≠ C ∧ b ≠ D := fun b o e => by
    have q : b < D := by rw [← hD0]; exact Heap.lt_size e
    exact ⟨below b q, Nat.ne_of_lt q⟩
   have B : Un (frs X.stack) fp H2 H3 s2.heap hh := I4.base
   have hDn : H3 D = none := nD
   have I5 : Inv X pins σ (upd H3 D (.lst ys)) { s2 with heap := h', gens := g, drawn := d, toks := t } := by
    refine I2.call (h' := h') (g' := g) (d' := d) (t' := t) (ch := fp) ⟨?_, ?_, ?_, ?_, ?_, ?_, ?_⟩ ?_ I4.bare ?_
    ·exact fun b o e n hb hx => kp b o (lt2 b o e).1 (B.keep b o e n hb hx)
    ·intro b o e n hb hx
     obtain ⟨sl, q⟩ := B.slot b o e n hb hx
     exact ⟨sl, kp b _ (lt2 b o e).1 q⟩
    ·intro b o e n hx
     rw [Qar (lt2 b o e).2]
     exact B.free b o e n hx
    ·intro b o e hx
     obtain ⟨o', q⟩ := B.there b o e hx
     exact ⟨o', kp b o' (lt2 b o e).1 q⟩
    ·intro b xs e
     have q := B.tups b xs e
     rw [Qar (Qal q hDn)]
     exact q
    ·intro b o u e
     have q := B.frzs b o u e
     rw [Qar (Qal q hDn)]
     exact q
    ·intro b ps e
     obtain ⟨more, q⟩ := B.tbls b ps e
     exact ⟨more, by rw [Qar (Qal q hDn)]; exact q⟩
    ·intro b u e
     by_cases hb : b = D
     ·subst hb
      rw [Qab] at e
      cases e
      exact ⟨hz, its, n, vy, kp _ _ hDC eD⟩
     ·rw [Qar hb] at e
      have nC : ∀ c o, H3 c = some o → c ≠ C := fun c o q => Qal q I4.free
      refine (I4.hok b u e).stay (fun c v hc' q => kp c v ?_ q) (fun c q => by rw [Qar (Qal q hDn)]; exact q) fun c xs q => by rw [Qar (Qal q hDn)]; exact q
      rcases hc' with z | z
      ·rw [z]; exact nC b u e
      ·exact nC c _ z
    ·intro b hb
     obtain ⟨_, f1, _, f3, f4, f5⟩ := f2 b hb
     exact ⟨f3, f1, f4, f5⟩
   exact I5
  ·refine thn (T.item X' rfl rfl rfl hc i _ s3 _ H3 xe I3 (fpk hpD fr3) st3 go) fun r s4 ⟨u, hr, h4⟩ => ?_
   subst hr
   refine wpAny_bind (thn h4 fun _ s5 ⟨xv, H5, I5, r5, y5, st5, fr5⟩ => ?_)
   have I5' := I5.pinned (fpk hpD fr5) (T.obj _ _ st5)
   refine wpAny_bind (thn (Qau (X := X') (i := 0) L.nd rfl (Or.inl (lookup_relabel_local L.loc)) (Or.inr (lookup_relabel_local L.loc)) _ s5 _ H5 xv u (fun σ6 H6 => σ6 = some xv :: js.map (fun j => σ.getD j none) ∧ H6 = H5) I5' r5 ⟨rfl, rfl⟩) fun _ s6 ⟨σ6, H6, I6, e6, e6'⟩ => ?_)
   subst e6 e6'
   refine wpAny_bind (wpAny_bind (thn (he C s2 H2 fp xe gx _ s6 _ _ _ I6 (step xv _ y5)) fun y s7 ⟨yv, H7, I7, ry, n7⟩ => ?_))
   obtain ⟨m', hm, w7⟩ := hN yv H7 n7
   have I7' := I7.unpinned
   obtain ⟨eD, nD, neC, nfs, _⟩ := I7'.pin (D, _) (List.mem_append_right _ (List.mem_singleton.mpr rfl))
   have eD' : s7.heap.get? D = some { cls := .type "list", data := .seq its.toArray n } := eD
   have lv := vy.length
   refine wpAny_bind (call_meets F.slot_list_append ⟨_, eD', rfl⟩ F.entry_list_append (F.args_list_append_2 _ _) (PySem.list_append D its.toArray n y (by rw [List.size_toArray]; omega)) ⟨eD', ?_⟩)
   refine wpAny_pure (wpAny_pure ⟨rfl, m', hm, i + 1, ys ++ [yv], H7, its ++ [y], ?_⟩)
   have q := PySem.IsL.update eD' (fun a : Array Value => a.push y)
   have I8 : Inv X' [] (some xv :: js.map (fun j => σ.getD j none)) H7 { s7 with heap := s7.heap.update D (Obj.mapSeq (fun a : Array Value => a.push y)) } :=
    (I7'.Qcj (pins' := []) (fun p hp => nomatch hp)).turned (t' := s7.toks) (it := D) (fun b o hb e => (Heap.get?_update_other s7.heap _ (Ne.symm hb)).trans e) nD neC (.inr (by show s2.heap.objs.size ≤ D; omega))
     (fun z c e w => by
      obtain ⟨v', o', ho', _⟩ := I2.cell z c (L.sub z c e)
      have := Heap.lt_size ho'
      rw [w, hD0] at this
      exact Nat.lt_irrefl _ this) (fun p hp => nomatch hp)
   have pinf : ∀ b ∈ fp, ∀ o, s5.heap.get? b = some o → s7.heap.get? b = some o ∧ H7 b = none := fun b hb o e => by
    have z := I7.pin (b, o) (List.mem_append_right _ (List.mem_append_right _ (Qbt hb e)))
    exact ⟨z.1, z.2.1⟩
   obtain ⟨n', q'⟩ : ∃ n', (s7.heap.update D (Obj.mapSeq (fun a : Array Value => a.push y))).get? D = some { cls := .type "list", data := .seq (its ++ [y]).toArray n' } := by
    rw [show (its ++ [y]).toArray = its.toArray.push y by simp]
    exact ⟨_, q⟩
   refine ⟨n', some xv, I8.Qcj fun p hp => ?_, ?_, fun b hb => ?_, w7, vy.append (.cons ry .nil), by rw [List.length_append, List.length_singleton]; omega⟩
   ·rw [List.mem_singleton.mp hp]
    exact ⟨q', nD, neC, nfs, fun v z => by cases z⟩
   ·refine T.keep _ _ _ st5 fun b hb o e => ?_
    have hb' : D ≠ b := fun z => by
     have := flt b hb
     rw [← z] at this
     exact Nat.lt_irrefl _ this
    exact (Heap.get?_update_other s7.heap _ hb').trans (pinf b hb o e).1
   ·obtain ⟨o, e, _⟩ := T.obj _ _ st5 b hb
    exact (pinf b hb o e).2
 have start : ∀ {t' : Nat}, ∃ k i ys H' its n σ0, Inv X' [(D, { cls := .type "list", data := .seq (its : List Value).toArray n })] (σ0 :: js.map (fun j => σ.getD j none)) H' { s2 with heap := h₁, toks := t' } ∧ tn i h₁ ∧ (∀ b ∈ fp, H' b = none) ∧ W i k ys H' ∧ Vals ys its ∧ ys.length ≤ sizeLine := fun {t'} =>
  ⟨k0, 0, [], H2, [], 0, none, I0, st1, fun b hb => (f2 b hb).1, w0, .nil, Nat.zero_le _⟩
 exact codeAny_compStart_list (loop _ start) (T.self X.A 0 _ _ _ st1 (loop _ start))
theorem Qc2 {elt iter : Expr} {x : Str} {px pos : Pos} {scope : Scope} {cl : List (Str × Addr)} {wi : TI} {te : TE} (js : List Nat) (hc : X.calm = true) (L : LcOk X x scope cl js) (hi : PI X (.Name x px) iter wi)
 (he : ∀ C s2 H2 fp xe, PE (X.inC scope cl C s2 H2 fp (x :: js.map (fun j => X.N.getD j "")) xe) elt te)
 (hs : ∀ z, foldedSetIterable iter X.env z = pure z := by intro _; rfl) :
 PE X (.ListComp elt [⟨.Name x px, iter, [], 0⟩] scope pos) (tLC wi te js) := by
 intro pins s σ H Q I h
 rw [eval_ListComp]
 exact Qib (use := none) hc L hi (fun _ => True) (fun C s2 H2 fp xe _ => he C s2 H2 fp xe) (fun _ _ _ _ _ _ _ _ _ => trivial) hs I h fun D C H4 s4 m hn _ I4 q => ⟨m, hn, fun h' sb => ⟨.ref D, H4, I4 h' sb, rfl, q⟩⟩
theorem Qgp {i : Nat} {t : Str} {elt iter : Expr} {x : Str} {px pos cpos pos' : Pos} {scope : Scope} {cl : List (Str × Addr)} {wi : TI} {te : TE} (js : List Nat) (hN : X.N.Nodup) (hi' : X.N[i]? = some t) (hx : Loc X.env.scope t) (hc : X.calm = true) (L : LcOk X x scope cl js) (hi : PI X (.Name x px) iter wi)
 (he : ∀ C s2 H2 fp xe, PE (X.inC scope cl C s2 H2 fp (x :: js.map (fun j => X.N.getD j "")) xe) elt te)
 (hs : ∀ z, foldedSetIterable iter X.env z = pure z := by intro _; rfl) (hsw : swapsWith (.ListComp elt [⟨.Name x px, iter, [], 0⟩] scope cpos) (some (.Name t pos')) pos.line X.env = pure true := by rfl)
 (hf : X.fn t = true ∨ X.env.scope.names.lookup t = some .local := by first | exact .inl rfl | exact .inr rfl | assumption) :
 PS X (.Assign [.Name t pos'] (.ListComp elt [⟨.Name x px, iter, [], 0⟩] scope cpos) pos) (tAsg (tLC wi te js) (gName i)) := by
 intro pins s σ H D I h
 rw [exec_Assign_Name_used _ _ _ _ hsw]
 refine wpAny_bind (wpAny_standAt (wpAny_bind ?_))
 show wpAny _ X.A (do let _ ← comprehension (.ListComp elt [⟨.Name x px, iter, [], 0⟩] scope cpos) scope X.env _ (newList []) false (eval iter X.env) (some (assign (.Name t pos') X.env))) _ _ s
 refine wpAny_bind (wpAny_mono (Qib (use := some (assign (.Name t pos') X.env)) (Qc := fun _ s' => SP X pins D .next s') hc L hi (fun _ => True) (fun C s2 H2 fp xe _ => he C s2 H2 fp xe) (fun _ _ _ _ _ _ _ _ _ => trivial) hs I h fun Dl C H4 s4 m hn fC I4 q => ?_) (fun _ s' hq => wpAny_pure (wpAny_pure hq)) fun _ _ e => e)
 show wpAny (model X.prog X.w) X.A (assign (.Name t pos') X.env (.ref Dl)) _ X.xe s4
 obtain ⟨oC, es, ep, hoC, hdC, rC⟩ := id hn
 have I4' : Inv X (pins ++ pinsAt [C] s4.heap) σ H4 s4 := (I4 s4.heap (.refl ..)).pinned (fun b hb => by rw [List.mem_singleton.mp hb]; exact fC) fun b hb => by
  rw [List.mem_singleton.mp hb]
  exact ⟨oC, hoC, fun v z => by rw [hdC] at z; cases z⟩
 refine thn (Qau hN hi' hx hf _ s4 σ H4 (.ref Dl) (.ref Dl) D.nx I4' rfl q) fun _ s5 ⟨σ5, H5, I5, q5⟩ => ?_
 obtain ⟨e5, n5, _⟩ := I5.pin (C, oC) (List.mem_append_right _ (List.mem_append_right _ (Qbt (List.mem_singleton.mpr rfl) hoC)))
 refine ⟨m, ⟨oC, es, ep, e5, hdC, rC⟩, fun h' sb => ⟨σ5, H5, ?_, q5⟩⟩
 obtain ⟨_, f1, _, f3, f4, f5⟩ := fC
 exact I5.unpinned.turned (t' := s5.toks) (it := C) (fun b o hb e => (sb.2 b hb).trans e) n5 f1 f3 f4 f5
end
end L2
namespace L2
open PySem PySem.Spec PyProof.Rows L3
theorem Qbz {K : Q4} {a : Addr} {xs : List V} {T : V → Hp → VK → Prop} {R : Addr → Hp → List V → Prop} {H : Hp} (Pv : Nat → List V → Hp → Prop) (h0 : Pv 0 [] H) (hn : xs.length ≤ sizeLine) (hl : ∀ i ys H, i ≤ xs.length → Pv i ys H → SqL K H a xs ∧ ys.length = i)
 (hs : ∀ i x ys H, xs[i]? = some x → Pv i ys H → T x H fun y H2 => Pv (i + 1) (ys ++ [y]) H2) (hd : ∀ ys H, Pv xs.length ys H → ∀ l, H l = none → R l H ys) :
 ∃ W : Nat → Nat → List V → Hp → Prop, (∃ m, W 0 m [] H) ∧ ∀ i m ys H, W i m ys H →
   ((Itl K a).stop i H ∧ ∀ l, H l = none → R l H ys) ∨ ((Itl K a).go i H ∧ ys.length < sizeLine ∧ ∃ N : VK, (∀ y H2, N y H2 → ∃ m', m' < m ∧ W (i + 1) m' (ys ++ [y]) H2) ∧ ∀ x H', (Itl K a).yld i H x H' → T x H' N) := by
 refine ⟨fun i m ys H => m = xs.length - i ∧ i ≤ xs.length ∧ Pv i ys H, ⟨xs.length, by simp, Nat.zero_le _, h0⟩, ?_⟩
 rintro i m ys H ⟨rfl, hi, p⟩
 obtain ⟨q, hy⟩ := hl i ys H hi p
 by_cases hlt : i < xs.length
 ·refine .inr ⟨⟨xs, xs[i], q, by simp [hlt]⟩, by omega, fun y H2 => Pv (i + 1) (ys ++ [y]) H2, fun y H2 p' => ⟨xs.length - (i + 1), by omega, rfl, hlt, p'⟩, fun x H' ⟨e, y⟩ => ?_⟩
  subst e
  exact hs i x ys _ (y xs q) p
 ·have e : i = xs.length := by omega
  subst e
  exact .inl ⟨⟨xs, q, Nat.le_refl _⟩, hd ys H p⟩
theorem Qik : ∀ {ns : List Int} {its : List Value}, Vals (ns.map V.int) its → IntsAre its ns
 | [], _, .nil => .nil
 | n :: r, _, .cons ⟨t, e⟩ rr => by
   subst e
   exact .cons n t (Qik rr)
theorem Qet : ∀ {bs : List Bool} {its : List Value}, Vals (bs.map V.bl) its → LSm.BoolsAre its bs
 | [], _, .nil => .nil
 | n :: r, _, .cons e rr => by
   cases e
   exact .cons n (Qet rr)
section
variable {X : Cx}
theorem Qct {k : Nat} (hr : Room true k X.A) : CallR X (.builtin "sum") (fun xs H Q => ∃ (p : Addr) (ns : List Int), xs = [.ref p] ∧ SqL X.K H p (ns.map V.int) ∧ Q (.int ns.sum) H) := by
 intro pins s σ H xs us Q I r h
 obtain ⟨p, ns, rfl, hq, q⟩ := h
 obtain ⟨u, rfl, rx⟩ := vals1 r
 cases rx
 obtain ⟨its, r', pl, hz⟩ := I.list hq
 have hi := Qik r'
 obtain ⟨xs, hx⟩ := hi.allInts.items
 have hl' : s.heap.IsList p (intItems xs) := hx ▸ pl.isList
 refine sum_intListG (hr.hd rfl) hl' fun h' tk t' hk => ?_
 have e1 : ns = xs.toList.map (·.1) := by
  rw [← nums_intItems, ← hx]
  exact (show numsOf its.toArray.toList = ns from hi.numsOf).symm
 have e2 : preSum (numAt xs) xs.size = ns.sum := by
  rw [preSum_eq, List.take_of_length_le (by simp), e1]
 rw [e2]
 exact ⟨.int ns.sum, H, I.kept hk, ⟨t', rfl⟩, q⟩
theorem Qg7 {k : Nat} (hr : Room true k X.A) : CallR X (.builtin "any") (fun xs H Q => ∃ (p : Addr) (bs : List Bool), xs = [.ref p] ∧ SqL X.K H p (bs.map V.bl) ∧ Q (.bl (bs.any id)) H) := by
 intro pins s σ H xs us Q I r h
 obtain ⟨p, bs, rfl, hq, q⟩ := h
 obtain ⟨u, rfl, rx⟩ := vals1 r
 cases rx
 obtain ⟨its, r', pl, hz⟩ := I.list hq
 have hb := Qet r'
 have hl := pl.isList
 have hlt : p < s.heap.objs.size := by obtain ⟨_, e, _⟩ := hl; exact Heap.lt_size e
 refine call_any_walk (wpAny_pyIter_list hl ?_)
 refine ⟨s.heap.objs.size, [s.heap.objs.size, p], [s.heap.objs.size], its.toArray.size, _, _, fun i => (bs[i]?).getD false, rfl, Walks.list (A := X.A.in1) (hr.hd rfl) _ p (Nat.ne_of_lt hlt) its.toArray,
  ⟨⟨_, Heap.get?_push_size _ rfl, rfl, rfl⟩, hl.push _⟩, fun i v s' Q' E' hP hQ => ?_, fun h' tk hk => ?_⟩
 ·obtain ⟨b, e, rfl⟩ := hb.get i v (by simpa using hP)
  simp only [e, Option.getD_some] at hQ
  exact wpAny_truthy_bool hQ
 ·have e : ((List.range its.toArray.size).any fun i => (bs[i]?).getD false) = bs.any id := by
   rw [List.size_toArray, hb.length]; exact LSm.range_any bs
  rw [e]
  exact ⟨.bl (bs.any id), H, I.kept (LSm.kept_iter hk), rfl, q⟩
end
theorem Qbb {env : Env} {k : NameKind} : ∀ {names : List (Str × NameKind)} {y : Str}, (∀ z ∈ names, z.2 ≠ .free) → (∀ z ∈ names, z.2 ≠ k) → (names.map fun (n, k) => if (k == NameKind.free && env.scope.kind == .function && env.kindOf n == some .cell) then (n, NameKind.cell) else (n, k)).lookup y = some k → False
 | [], _, _, _, h => by simp at h
 | (n, k') :: r, y, hf, hk, h => by
   have e : (k' == NameKind.free) = false := by simpa using hf (n, k') List.mem_cons_self
   rw [List.map_cons] at h
   simp only [e, Bool.false_and, Bool.false_eq_true, if_false] at h
   rw [List.lookup_cons] at h
   cases hx : y == n with
   | true => rw [hx] at h; exact hk (n, k') List.mem_cons_self (Option.some.inj h)
   | false => rw [hx] at h; exact Qbb (fun z hz => hf z (List.mem_cons_of_mem _ hz)) (fun z hz => hk z (List.mem_cons_of_mem _ hz)) h
theorem LcOk.plain {X : Cx} {x : Str} {scope : Scope} (hfree : ∀ y ∈ scope.names, y.2 ≠ .free) (hcell : ∀ y ∈ scope.names, y.2 ≠ .cell) (hkind : scope.kind = .function) (hnames : ∀ y ∈ scope.names, y.2 = .local → scope.names.lookup y.1 = some .local)
 (hloc : scope.names.lookup x = some .local) : LcOk X x scope [] [] where
 clos := closureFor_none hfree
 sub := fun _ _ e => nomatch e
 kind := hkind
 cell := hcell
 names := hnames
 loc := hloc
 has := fun y h => by
  rcases h with h | h
  ·exact (Qbb hfree hcell h).elim
  ·exact (Qbb hfree hfree h).elim
 nd := by simp
 fr := fun _ h => nomatch h
theorem Qed : bootBuiltins "sum" = some (.builtin "sum") := by decide+kernel
theorem Qlh : bootBuiltins "any" = some (.builtin "any") := by decide+kernel
theorem Qja : bootBuiltins "sorted" = some (.builtin "sorted") := by decide+kernel
end L2
namespace L2
open PySem PySem.Spec PyProof.Rows L3
theorem Qa6 {env : Env} {k : NameKind} (hk : k = .cell ∨ k = .free) : ∀ {names : List (Str × NameKind)} {y : Str}, (∀ z ∈ names, z.2 ≠ .cell) → (names.map fun (n, k) => if (k == NameKind.free && env.scope.kind == .function && env.kindOf n == some .cell) then (n, NameKind.cell) else (n, k)).lookup y = some k → ∃ z ∈ names, z.1 = y ∧ z.2 = .free
 | [], _, _, h => by simp at h
 | (n, k') :: r, y, hc, h => by
   rw [List.map_cons] at h
   have fst : (if (k' == NameKind.free && env.scope.kind == .function && env.kindOf n == some .cell) = true then (n, NameKind.cell) else (n, k')).1 = n := by split <;> rfl
   cases hx : y == n with
   | true =>
     have e : y = n := eq_of_beq hx
     subst e
     by_cases hf : k' = .free
     ·exact ⟨(y, k'), List.mem_cons_self, rfl, hf⟩
     ·exfalso
      have e : (k' == NameKind.free) = false := by simpa using hf
      simp only [e, Bool.false_and, Bool.false_eq_true, if_false] at h
      rw [List.lookup_cons] at h
      rw [hx] at h
      have h' : k' = k := Option.some.inj h
      rcases hk with z | z
      ·exact hc (y, k') List.mem_cons_self (h'.trans z)
      ·exact hf (h'.trans z)
   | false =>
     rw [List.lookup_cons] at h
     rw [fst, hx] at h
     obtain ⟨z, m, q⟩ := Qa6 hk (fun z hz => hc z (List.mem_cons_of_mem _ hz)) h
     exact ⟨z, List.mem_cons_of_mem _ m, q⟩
theorem Qcr {cl : List (Str × Addr)} {y : Str} (h : y ∈ cl.map (·.1)) : ∃ c, cl.lookup y = some c := by
 induction cl with
 | nil => cases h
 | cons p r ih =>
   rw [List.lookup_cons]
   cases hx : y == p.1 with
   | true => exact ⟨_, rfl⟩
   | false =>
     rcases List.mem_cons.mp h with e | e
     ·rw [e, beq_self_eq_true] at hx; cases hx
     ·exact ih e
theorem Qd8 {cl : List (Str × Addr)} {y : Str} {c : Addr} (h : cl.lookup y = some c) : (y, c) ∈ cl := by
 induction cl with
 | nil => cases h
 | cons p r ih =>
   rw [List.lookup_cons] at h
   cases hx : y == p.1 with
   | true =>
     rw [hx] at h
     have e := eq_of_beq hx
     have e2 : p.2 = c := Option.some.inj h
     rw [show p = (y, c) by rw [e, ← e2]]
     exact List.mem_cons_self
   | false => rw [hx] at h; exact List.mem_cons_of_mem _ (ih h)
theorem LcOk.free {X : Cx} {x : Str} {scope : Scope} {cl : List (Str × Addr)} {js : List Nat} (fns : List Str) (hclos : closureFor scope X.env = pure cl) (hf : cl.map (·.1) = fns) (hsub : ∀ p ∈ cl, X.env.cells.lookup p.1 = some p.2) (hcell : ∀ y ∈ scope.names, y.2 ≠ .cell) (hkind : scope.kind = .function) (hnames : ∀ y ∈ scope.names, y.2 = .local → scope.names.lookup y.1 = some .local)
 (hloc : scope.names.lookup x = some .local) (hcov : ∀ z ∈ scope.names, z.2 = .free → z.1 ∈ fns) (hnd : (x :: js.map (fun j => X.N.getD j "")).Nodup)
 (hfr : ∀ j ∈ js, ∃ y, X.N[j]? = some y ∧ X.env.kindOf y = some .cell ∧ (relabel scope X.env).names.lookup y = some .cell ∧ y ∈ fns) : LcOk X x scope cl js where
 clos := hclos
 sub := fun y c e => hsub (y, c) (Qd8 e)
 kind := hkind
 cell := hcell
 names := hnames
 loc := hloc
 has := fun y h => by
  have : ∃ z ∈ scope.names, z.1 = y ∧ z.2 = .free := by
   rcases h with h | h
   ·exact Qa6 (.inl rfl) hcell h
   ·exact Qa6 (.inr rfl) hcell h
  obtain ⟨z, m, rfl, e⟩ := this
  exact Qcr (by rw [hf]; exact hcov z m e)
 nd := hnd
 fr := fun j hj => by
  obtain ⟨y, a, b, c, d⟩ := hfr j hj
  exact ⟨y, a, b, c, Qcr (by rw [hf]; exact d)⟩
end L2
namespace L2
open PySem PySem.Spec PyProof.Rows L3
def tLCIf (wi : TI) (tt : TT) (te : TE) (js : List Nat) : TE := fun σ H Q => wi σ H fun J H1 => ∃ W : Nat → Nat → List V → Hp → Prop, (∃ m, W 0 m [] H1) ∧ ∀ i m ys H, W i m ys H →
 (J.stop i H ∧ ∀ l, H l = none → Q (.ref l) (upd H l (.lst ys))) ∨ (J.go i H ∧ ys.length < sizeLine ∧ ∃ (N : VK) (S : Hp → Prop), (∀ y H2, N y H2 → ∃ m', m' < m ∧ W (i + 1) m' (ys ++ [y]) H2) ∧ (∀ H2, S H2 → ∃ m', m' < m ∧ W (i + 1) m' ys H2) ∧
  ∀ x H', J.yld i H x H' → tt (some x :: js.map (fun j => σ.getD j none)) H' fun b H2 => if b = true then te (some x :: js.map (fun j => σ.getD j none)) H2 N else S H2)
section
variable {X : Cx}
theorem Qe5 {elt iter c : Expr} {x : Str} {px pos cpos : Pos} {scope : Scope} {cl : List (Str × Addr)} {wi : TI} {te : TE} {tt : TT} {js : List Nat} {use : Option (Value → Sem Unit)} {Qc : Q0} {pins : Q3} {s : Shared} {σ : St} {H : Hp} {Q : VK}
 (hc : X.calm = true) (L : LcOk X x scope cl js) (hi : PI X (.Name x px) iter wi)
 (he : ∀ C s2 H2 fp xe, PE (X.inC scope cl C s2 H2 fp (x :: js.map (fun j => X.N.getD j "")) xe) elt te)
 (ht : ∀ C s2 H2 fp xe, PT (X.inC scope cl C s2 H2 fp (x :: js.map (fun j => X.N.getD j "")) xe) c tt)
 (hs : ∀ z, foldedSetIterable iter X.env z = pure z) (I : Inv X pins σ H s) (h : tLCIf wi tt te js σ H Q)
 (fin : ∀ (D C : Addr) (H4 : Hp) (s4 : Shared) (m : Str → Option Value), s4.heap.Ns C m → FpOk X pins H4 C → (∀ h', Heap.SameBut C s4.heap h' → Inv X pins σ H4 { s4 with heap := h' }) → Q (.ref D) H4 → compPost (model X.prog X.w) X.A X.xe use Qc (.ref D) C (.ok .next) s4) :
 wpAny (model X.prog X.w) X.A (comprehension (.ListComp elt [⟨.Name x px, iter, [c], 0⟩] scope pos) scope X.env cpos (newList []) false (eval iter X.env) use) Qc X.xe s := by
 refine wpAny_comprehension_free (cl := cl) (use := use) rfl hs L.clos L.kind L.names ?_
 refine thn (hi pins s σ H _ I h) fun v s1 h1 => thn h1 fun itv s2 h2 => ?_
 obtain ⟨it, fp, tn, J, H2, e, I2, T, st2, f2, W, ⟨k0, w0⟩, turn⟩ := h2
 subst e
 refine wpAny_newObj_type (wpAny_newFunctionEnv L.cell (by intro y hy; simp at hy) (fun h₁ hns₁ hsb₁ => ?_) L.kind)
 dsimp only at hns₁ hsb₁ ⊢
 generalize hH2 : s2.heap.push { cls := .type "list", dict := none, data := .seq ([] : List Value).toArray } = Hp2 at hns₁ hsb₁ ⊢
 have hC : Hp2.objs.size = s2.heap.objs.size + 1 := by rw [← hH2, Heap.size_push]
 generalize hD0 : s2.heap.objs.size = D at hC ⊢
 generalize hC0 : Hp2.objs.size = C at hC hns₁ hsb₁ ⊢
 have hDC : D ≠ C := by omega
 have below : ∀ b, b < D → b ≠ C := fun b hb => by omega
 have old : ∀ b o, s2.heap.get? b = some o → h₁.get? b = some o := fun b o e =>
  hsb₁.extBut b o (below b (by rw [← hD0]; exact Heap.lt_size e)) (Heap.get?_push_of_some _ (hH2 ▸ Heap.get?_push_of_some _ e))
 have hacc : h₁.get? D = some { cls := .type "list", data := .seq ([] : List Value).toArray 0 } := by
  subst hD0
  exact hsb₁.extBut _ _ hDC (Heap.get?_push_of_some _ (hH2 ▸ Heap.get?_push_size _ rfl))
 have fo : ∀ b ∈ fp, ∃ o, s2.heap.get? b = some o := fun b hb => let ⟨o, e, _⟩ := T.obj _ _ st2 b hb; ⟨o, e⟩
 have flt : ∀ b ∈ fp, b < D := fun b hb => let ⟨o, e⟩ := fo b hb; by rw [← hD0]; exact Heap.lt_size e
 have st1 : tn 0 h₁ := T.keep _ _ _ st2 fun b hb o e => old b o e
 let R := compPost (model X.prog X.w) X.A X.xe use Qc (.ref D) C
 let xe := notedBy (model X.prog X.w) X.A (compEnvC scope cl C X.env) fun e s' => R (.error e) s'
 let X' := X.inC scope cl C s2 H2 fp (x :: js.map (fun j => X.N.getD j "")) xe
 have I0 : ∀ {t' : Nat}, Inv X' [(D, _)] (none :: js.map (fun j => σ.getD j none)) H2 { s2 with heap := h₁, toks := t' } := fun {t'} =>
  Inv.inC L I2 f2 fo (by omega) (by omega) hDC old hns₁ hacc (fun v z => by cases z)
 have fpk : ∀ {pD : Q3} {H' : Hp}, (∀ p ∈ pD, p.1 = D) → (∀ b ∈ fp, H' b = none) → ∀ b ∈ fp, FpOk X' pD H' b := fun {pD H'} hp hn b hb => by
  refine ⟨hn b hb, below b (flt b hb), fun z => ?_, .inl hb, fun y c e => (f2 b hb).2.2.2.2.1 y c (L.sub y c e), fun p hp' z => ?_⟩
  ·rcases List.mem_cons.mp (I2.stkSub b z) with e | e
   ·exact (f2 b hb).2.1 e
   ·exact (f2 b hb).2.2.1 e
  ·have q := hp p (by simpa [X', Cx.inC] using hp')
   have := flt b hb
   rw [← z, q] at this
   exact Nat.lt_irrefl _ this
 have loop : ∀ s3 : Shared, (∃ k i ys H' its n σ0, Inv X' [(D, { cls := .type "list", data := .seq (its : List Value).toArray n })] (σ0 :: js.map (fun j => σ.getD j none)) H' s3 ∧ tn i s3.heap ∧ (∀ b ∈ fp, H' b = none) ∧ W i k ys H' ∧ Vals ys its ∧ ys.length ≤ sizeLine) →
  codeAny (model X.prog X.w) X.A (.compLoop (.ListComp elt [⟨.Name x px, iter, [c], 0⟩] scope pos) 0 (.ref it) (.ref D) (compEnvC scope cl C X.env)) R s3 := by
  rintro s3 ⟨k, hk⟩
  refine codeAny_loop rfl (fun k s3 => ∃ i ys H' its n σ0, Inv X' [(D, { cls := .type "list", data := .seq (its : List Value).toArray n })] (σ0 :: js.map (fun j => σ.getD j none)) H' s3 ∧ tn i s3.heap ∧ (∀ b ∈ fp, H' b = none) ∧ W i k ys H' ∧ Vals ys its ∧ ys.length ≤ sizeLine) (fun k s3 hI => ?_) k hk
  obtain ⟨i, ys, H3, its, n, σ0, I3, st3, fr3, w3, vy, hz⟩ := hI
  show wpAny _ _ ((compTurn (.ListComp elt [⟨.Name x px, iter, [c], 0⟩] scope pos) 0 (.ref it) (.ref D) (compEnvC scope cl C X.env)).onRaise (fun x => do noteFrame x (compEnvC scope cl C X.env); theTreesLotGoes x)) _ _ s3
  refine wpAny_noted ?_
  rw [compTurn_list]
  have hpD : ∀ {o : Obj}, ∀ p ∈ [(D, o)], p.1 = D := fun p hp => by rw [List.mem_singleton.mp hp]
  refine wpAny_bind (wpAny_standAt (wpAny_bind ?_))
  rcases turn i k ys H3 w3 with ⟨stop, qn⟩ | ⟨go, hlen, N, S, hN, hS, step⟩
  ·refine thn (T.done X' rfl rfl rfl hc i _ s3 _ H3 xe I3 (fpk hpD fr3) st3 stop) fun r s4 ⟨hr, I4⟩ => ?_
   subst hr
   refine wpAny_pure ?_
   obtain ⟨m, hn, _⟩ := I4.loc
   obtain ⟨eD, nD, _⟩ := I4.pin (D, _) (List.mem_append_right _ (List.mem_singleton.mpr rfl))
   have fC : FpOk X pins (upd H3 D (.lst ys)) C := I2.fpOk (by omega) (by
    rw [Qar (Ne.symm hDC)]
    exact I4.free)
   refine fin D C (upd H3 D (.lst ys)) s4 m hn fC (fun h' sb => ?_) (qn D nD)
   obtain ⟨hh, g, d, t, os'⟩ := s4
   obtain rfl : os' = s2.os := I4.os
   have kp : ∀ b o, b ≠ C → hh.get? b = some o → h'.get? b = some o := fun b o hb e => (sb.2 b hb).trans e
   have lt2 : ∀ b o, s2.heap.get? b = some o → b ≠ C ∧ b ≠ D := fun b o e => by
    have q : b < D := by rw [← hD0]; exact Heap.lt_size e
    exact ⟨below b q, Nat.ne_of_lt q⟩
   have B : Un (frs X.stack) fp H2 H3 s2.heap hh := I4.base
   have hDn : H3 D = none := nD
   have I5 : Inv X pins σ (upd H3 D (.lst ys)) { s2 with heap := h', gens := g, drawn := d, toks := t } := by
    refine I2.call (h' := h') (g' := g) (d' := d) (t' := t) (ch := fp) ⟨?_, ?_, ?_, ?_, ?_, ?_, ?_⟩ ?_ I4.bare ?_
    ·exact fun b o e n hb hx => kp b o (lt2 b o e).1 (B.keep b o e n hb hx)
    ·intro b o e n hb hx
     obtain ⟨sl, q⟩ := B.slot b o e n hb hx
     exact ⟨sl, kp b _ (lt2 b o e).1 q⟩
    ·intro b o e n hx
     rw [Qar (lt2 b o e).2]
     exact B.free b o e n hx
    ·intro b o e hx
     obtain ⟨o', q⟩ := B.there b o e hx
     exact ⟨o', kp b o' (lt2 b o e).1 q⟩
    ·intro b xs e
     have q := B.tups b xs e
     rw [Qar (Qal q hDn)]
     exact q
    ·intro b o u e
     have q := B.frzs b o u e
     rw [Qar (Qal q hDn)]
     exact q
    ·intro b ps e
     obtain ⟨more, q⟩ := B.tbls b ps e
     exact ⟨more, by rw [Qar (Qal q hDn)]; exact q⟩
    ·intro b u e
     by_cases hb : b = D
     ·subst hb
      rw [Qab] at e
      cases e
      exact ⟨hz, its, n, vy, kp _ _ hDC eD⟩
     ·rw [Qar hb] at e
      have nC : ∀ c o, H3 c = some o → c ≠ C := fun c o q => Qal q I4.free
      refine (I4.hok b u e).stay (fun c v hc' q => kp c v ?_ q) (fun c q => by rw [Qar (Qal q hDn)]; exact q) fun c xs q => by rw [Qar (Qal q hDn)]; exact q
      rcases hc' with z | z
      ·rw [z]; exact nC b u e
      ·exact nC c _ z
    ·intro b hb
     obtain ⟨_, f1, _, f3, f4, f5⟩ := f2 b hb
     exact ⟨f3, f1, f4, f5⟩
   exact I5
  ·refine thn (T.item X' rfl rfl rfl hc i _ s3 _ H3 xe I3 (fpk hpD fr3) st3 go) fun r s4 ⟨u, hr, h4⟩ => ?_
   subst hr
   refine wpAny_bind (thn h4 fun _ s5 ⟨xv, H5, I5, r5, y5, st5, fr5⟩ => ?_)
   have I5' := I5.pinned (fpk hpD fr5) (T.obj _ _ st5)
   refine wpAny_bind (thn (Qau (X := X') (i := 0) L.nd rfl (Or.inl (lookup_relabel_local L.loc)) (Or.inr (lookup_relabel_local L.loc)) _ s5 _ H5 xv u (fun σ6 H6 => σ6 = some xv :: js.map (fun j => σ.getD j none) ∧ H6 = H5) I5' r5 ⟨rfl, rfl⟩) fun _ s6 ⟨σ6, H6, I6, e6, e6'⟩ => ?_)
   subst e6 e6'
   refine wpAny_bind (thn (wpAny_tests_one (ht C s2 H2 fp xe _ s6 _ _ _ I6 (step xv _ y5))) fun ok s6b ⟨H6b, I6b, q6b⟩ => ?_)
   cases ok with
   | false =>
     have q6b : S H6b := q6b
     obtain ⟨m', hm, w7⟩ := hS H6b q6b
     have pinf : ∀ b ∈ fp, ∀ o, s5.heap.get? b = some o → s6b.heap.get? b = some o ∧ H6b b = none := fun b hb o e => by
      have z := I6b.pin (b, o) (List.mem_append_right _ (List.mem_append_right _ (Qbt hb e)))
      exact ⟨z.1, z.2.1⟩
     refine wpAny_pure ⟨rfl, m', hm, i + 1, ys, H6b, its, n, some xv, I6b.unpinned, T.keep _ _ _ st5 fun b hb o e => (pinf b hb o e).1, fun b hb => ?_, w7, vy, hz⟩
     obtain ⟨o, e, _⟩ := T.obj _ _ st5 b hb
     exact (pinf b hb o e).2
   | true =>
     have q6b : te (some xv :: js.map (fun j => σ.getD j none)) H6b N := q6b
     refine wpAny_bind (wpAny_bind (thn (he C s2 H2 fp xe _ s6b _ _ _ I6b q6b) fun y s7 ⟨yv, H7, I7, ry, n7⟩ => ?_))
     obtain ⟨m', hm, w7⟩ := hN yv H7 n7
     have I7' := I7.unpinned
     obtain ⟨eD, nD, neC, nfs, _⟩ := I7'.pin (D, _) (List.mem_append_right _ (List.mem_singleton.mpr rfl))
     have eD' : s7.heap.get? D = some { cls := .type "list", data := .seq its.toArray n } := eD
     have lv := vy.length
     refine wpAny_bind (call_meets F.slot_list_append ⟨_, eD', rfl⟩ F.entry_list_append (F.args_list_append_2 _ _) (PySem.list_append D its.toArray n y (by rw [List.size_toArray]; omega)) ⟨eD', ?_⟩)
     refine wpAny_pure (wpAny_pure ⟨rfl, m', hm, i + 1, ys ++ [yv], H7, its ++ [y], ?_⟩)
     have q := PySem.IsL.update eD' (fun a : Array Value => a.push y)
     have I8 : Inv X' [] (some xv :: js.map (fun j => σ.getD j none)) H7 { s7 with heap := s7.heap.update D (Obj.mapSeq (fun a : Array Value => a.push y)) } :=
      (I7'.Qcj (pins' := []) (fun p hp => nomatch hp)).turned (t' := s7.toks) (it := D) (fun b o hb e => (Heap.get?_update_other s7.heap _ (Ne.symm hb)).trans e) nD neC (.inr (by show s2.heap.objs.size ≤ D; omega))
       (fun z c e w => by
        obtain ⟨v', o', ho', _⟩ := I2.cell z c (L.sub z c e)
        have := Heap.lt_size ho'
        rw [w, hD0] at this
        exact Nat.lt_irrefl _ this) (fun p hp => nomatch hp)
     have pinf : ∀ b ∈ fp, ∀ o, s5.heap.get? b = some o → s7.heap.get? b = some o ∧ H7 b = none := fun b hb o e => by
      have z := I7.pin (b, o) (List.mem_append_right _ (List.mem_append_right _ (Qbt hb e)))
      exact ⟨z.1, z.2.1⟩
     obtain ⟨n', q'⟩ : ∃ n', (s7.heap.update D (Obj.mapSeq (fun a : Array Value => a.push y))).get? D = some { cls := .type "list", data := .seq (its ++ [y]).toArray n' } := by
      rw [show (its ++ [y]).toArray = its.toArray.push y by simp]
      exact ⟨_, q⟩
     refine ⟨n', some xv, I8.Qcj fun p hp => ?_, ?_, fun b hb => ?_, w7, vy.append (.cons ry .nil), by rw [List.length_append, List.length_singleton]; omega⟩
     ·rw [List.mem_singleton.mp hp]
      exact ⟨q', nD, neC, nfs, fun v z => by cases z⟩
     ·refine T.keep _ _ _ st5 fun b hb o e => ?_
      have hb' : D ≠ b := fun z => by
       have := flt b hb
       rw [← z] at this
       exact Nat.lt_irrefl _ this
      exact (Heap.get?_update_other s7.heap _ hb').trans (pinf b hb o e).1
     ·obtain ⟨o, e, _⟩ := T.obj _ _ st5 b hb
      exact (pinf b hb o e).2
 have start : ∀ {t' : Nat}, ∃ k i ys H' its n σ0, Inv X' [(D, { cls := .type "list", data := .seq (its : List Value).toArray n })] (σ0 :: js.map (fun j => σ.getD j none)) H' { s2 with heap := h₁, toks := t' } ∧ tn i h₁ ∧ (∀ b ∈ fp, H' b = none) ∧ W i k ys H' ∧ Vals ys its ∧ ys.length ≤ sizeLine := fun {t'} =>
  ⟨k0, 0, [], H2, [], 0, none, I0, st1, fun b hb => (f2 b hb).1, w0, .nil, Nat.zero_le _⟩
 exact codeAny_compStart_list (loop _ start) (T.self X.A 0 _ _ _ st1 (loop _ start))
theorem Qck {elt iter c : Expr} {x : Str} {px pos : Pos} {scope : Scope} {cl : List (Str × Addr)} {wi : TI} {te : TE} {tt : TT} (js : List Nat) (hc : X.calm = true) (L : LcOk X x scope cl js) (hi : PI X (.Name x px) iter wi)
 (ht : ∀ C s2 H2 fp xe, PT (X.inC scope cl C s2 H2 fp (x :: js.map (fun j => X.N.getD j "")) xe) c tt)
 (he : ∀ C s2 H2 fp xe, PE (X.inC scope cl C s2 H2 fp (x :: js.map (fun j => X.N.getD j "")) xe) elt te)
 (hs : ∀ z, foldedSetIterable iter X.env z = pure z := by intro _; rfl) :
 PE X (.ListComp elt [⟨.Name x px, iter, [c], 0⟩] scope pos) (tLCIf wi tt te js) := by
 intro pins s σ H Q I h
 rw [eval_ListComp]
 exact Qe5 (use := none) hc L hi he ht hs I h fun D C H4 s4 m hn _ I4 q => ⟨m, hn, fun h' sb => ⟨.ref D, H4, I4 h' sb, rfl, q⟩⟩
theorem Qco {i : Nat} {t : Str} {elt iter c : Expr} {x : Str} {px pos cpos pos' : Pos} {scope : Scope} {cl : List (Str × Addr)} {wi : TI} {te : TE} {tt : TT} (js : List Nat) (hN : X.N.Nodup) (hi' : X.N[i]? = some t) (hx : Loc X.env.scope t) (hc : X.calm = true) (L : LcOk X x scope cl js) (hi : PI X (.Name x px) iter wi)
 (ht : ∀ C s2 H2 fp xe, PT (X.inC scope cl C s2 H2 fp (x :: js.map (fun j => X.N.getD j "")) xe) c tt)
 (he : ∀ C s2 H2 fp xe, PE (X.inC scope cl C s2 H2 fp (x :: js.map (fun j => X.N.getD j "")) xe) elt te)
 (hs : ∀ z, foldedSetIterable iter X.env z = pure z := by intro _; rfl) (hsw : swapsWith (.ListComp elt [⟨.Name x px, iter, [c], 0⟩] scope cpos) (some (.Name t pos')) pos.line X.env = pure true := by rfl)
 (hf : X.fn t = true ∨ X.env.scope.names.lookup t = some .local := by first | exact .inl rfl | exact .inr rfl | assumption) :
 PS X (.Assign [.Name t pos'] (.ListComp elt [⟨.Name x px, iter, [c], 0⟩] scope cpos) pos) (tAsg (tLCIf wi tt te js) (gName i)) := by
 intro pins s σ H D I h
 rw [exec_Assign_Name_used _ _ _ _ hsw]
 refine wpAny_bind (wpAny_standAt (wpAny_bind ?_))
 show wpAny _ X.A (do let _ ← comprehension (.ListComp elt [⟨.Name x px, iter, [c], 0⟩] scope cpos) scope X.env _ (newList []) false (eval iter X.env) (some (assign (.Name t pos') X.env))) _ _ s
 refine wpAny_bind (wpAny_mono (Qe5 (use := some (assign (.Name t pos') X.env)) (Qc := fun _ s' => SP X pins D .next s') hc L hi he ht hs I h fun Dl C H4 s4 m hn fC I4 q => ?_) (fun _ s' hq => wpAny_pure (wpAny_pure hq)) fun _ _ e => e)
 show wpAny (model X.prog X.w) X.A (assign (.Name t pos') X.env (.ref Dl)) _ X.xe s4
 obtain ⟨oC, es, ep, hoC, hdC, rC⟩ := id hn
 have I4' : Inv X (pins ++ pinsAt [C] s4.heap) σ H4 s4 := (I4 s4.heap (.refl ..)).pinned (fun b hb => by rw [List.mem_singleton.mp hb]; exact fC) fun b hb => by
  rw [List.mem_singleton.mp hb]
  exact ⟨oC, hoC, fun v z => by rw [hdC] at z; cases z⟩
 refine thn (Qau hN hi' hx hf _ s4 σ H4 (.ref Dl) (.ref Dl) D.nx I4' rfl q) fun _ s5 ⟨σ5, H5, I5, q5⟩ => ?_
 obtain ⟨e5, n5, _⟩ := I5.pin (C, oC) (List.mem_append_right _ (List.mem_append_right _ (Qbt (List.mem_singleton.mpr rfl) hoC)))
 refine ⟨m, ⟨oC, es, ep, e5, hdC, rC⟩, fun h' sb => ⟨σ5, H5, ?_, q5⟩⟩
 obtain ⟨_, f1, _, f3, f4, f5⟩ := fC
 exact I5.unpinned.turned (t' := s5.toks) (it := C) (fun b o hb e => (sb.2 b hb).trans e) n5 f1 f3 f4 f5
end
end L2
namespace L2
open PySem PySem.Spec PyProof.Rows L3
section
variable {prog : Program} {w : World} {A : Around} {E : Q0} {s : Shared}
end
section
variable {X : Cx}
end
end L2
namespace L2
open PySem PySem.Spec PyProof.Rows L3
section
variable {X : Cx} {pins : Q3} {σ : St} {H : Hp} {s : Shared}
end
section
variable {X : Cx}
end
end L2
namespace L2
open PySem PySem.Spec PyProof.Rows L3
theorem Qa0 {X : Cx} {scope : Scope} {cl : List (Str × Addr)} {C : Addr} {s2 : Shared} {H2 : Hp} {fp : List Addr} {N' : List Str} {xe : Q0} : IxR (X.inC scope cl C s2 H2 fp N' xe) (rIx X.K) := Qai (X := X.inC scope cl C s2 H2 fp N' xe)
end L2
namespace L2
open PySem PySem.Spec PyProof.Rows L3
section
variable {X : Cx}
end
end L2
namespace L2
open PySem PySem.Spec PyProof.Rows L3
theorem Qcs {lo : Int} {n : Nat} {T : V → Hp → VK → Prop} {R : Addr → Hp → List V → Prop} {H : Hp} (Pv : Nat → List V → Hp → Prop) (h0 : Pv 0 [] H) (hn : n ≤ sizeLine) (hl : ∀ i ys H, i ≤ n → Pv i ys H → ys.length = i)
 (hs : ∀ i ys H, i < n → Pv i ys H → T (.int (lo + i)) H fun y H2 => Pv (i + 1) (ys ++ [y]) H2) (hd : ∀ ys H, Pv n ys H → ∀ l, H l = none → R l H ys) :
 ∃ W : Nat → Nat → List V → Hp → Prop, (∃ m, W 0 m [] H) ∧ ∀ i m ys H, W i m ys H →
   ((Itr lo n).stop i H ∧ ∀ l, H l = none → R l H ys) ∨ ((Itr lo n).go i H ∧ ys.length < sizeLine ∧ ∃ N : VK, (∀ y H2, N y H2 → ∃ m', m' < m ∧ W (i + 1) m' (ys ++ [y]) H2) ∧ ∀ x H', (Itr lo n).yld i H x H' → T x H' N) := by
 refine ⟨fun i m ys H => m = n - i ∧ i ≤ n ∧ Pv i ys H, ⟨n, by simp, Nat.zero_le _, h0⟩, ?_⟩
 rintro i m ys H ⟨rfl, hi, p⟩
 have hy := hl i ys H hi p
 by_cases hlt : i < n
 ·refine .inr ⟨hlt, by omega, fun y H2 => Pv (i + 1) (ys ++ [y]) H2, fun y H2 p' => ⟨n - (i + 1), by omega, rfl, hlt, p'⟩, fun x H' ⟨e, y⟩ => ?_⟩
  subst e y
  exact hs i ys _ hlt p
 ·have e : i = n := by omega
  subst e
  exact .inl ⟨Nat.le_refl _, hd ys H p⟩
end L2
namespace L2
open PySem PySem.Spec PyProof.Rows L3
section
variable {X : Cx}
def eqT (K : Q4) (H : Hp) (x y : V) : Prop := (x = y ∧ eqPl x = true) ∨ ∃ a b xs, x = .ref a ∧ y = .ref b ∧ SqT K H a xs ∧ SqT K H b xs ∧ ∀ z ∈ xs, eqPl z = true
theorem Inv.eqT {pins : Q3} {σ : St} {H : Hp} {s : Shared} {x y : V} {v u : Value} {A : Around} (I : Inv X pins σ H s) (hu : A.units < cLine) (e : eqT X.K H x y) (rx : RelV x v) (ry : RelV y u) : SeqAt.EqAt A s v u true := by
 rcases e with ⟨rfl, hp⟩ | ⟨a, b, xs, rfl, rfl, ha, hb, hp⟩
 ·exact Qfa hp rx ry
 ·cases rx
  cases ry
  by_cases hab : a = b
  ·subst hab
   exact SeqAt.EqAt.same _
  obtain ⟨its, r, pl, hz⟩ := I.tuple ha
  obtain ⟨its2, r2, pl2, hz2⟩ := I.tuple hb
  have l1 := r.length
  have l2 := r2.length
  have h := SeqAt.RcAt.tuples (A := A) (e := fun _ => true) (show s.heap.IsTuple a its.toArray from pl) (show s.heap.IsTuple b its2.toArray from pl2) hu (fun j h1 h2 => by
   simp only [List.size_toArray] at h1 h2
   obtain ⟨x, e, rx⟩ := Qbx r j h1
   obtain ⟨x2, e2, rx2⟩ := Qbx r2 j h2
   rw [e] at e2
   cases e2
   simp only [List.getElem_toArray]
   exact Qfa (hp x (List.mem_of_getElem? e)) rx rx2)
  have hb : ((List.range (min its.toArray.size its2.toArray.size)).all (fun _ => true) && its.toArray.size == its2.toArray.size) = true := by
   simp only [List.size_toArray]
   rw [← l1, ← l2]
   simp
  rw [hb] at h
  exact SeqAt.EqAt.of_refs hab h
def EqLs (K : Q4) (H : Hp) (xs ys : List V) : Prop := xs.length = ys.length ∧ ∀ (j : Nat) x y, xs[j]? = some x → ys[j]? = some y → eqT K H x y
theorem op_eqD {cm : Bool} {k : Nat} (hr : Room cm k X.A) : OpR X (compareOp .Eq) (fun x y H Q => ∃ a b xs ys, x = .ref a ∧ y = .ref b ∧ SqL X.K H a xs ∧ SqL X.K H b ys ∧ EqLs X.K H xs ys ∧ Q (.bl true) H) := by
 intro pins s σ H x y v u Q I rx ry h
 obtain ⟨a, b, xs, ys, rfl, rfl, ha, hb, ⟨hl, he⟩, q⟩ := h
 cases rx
 cases ry
 obtain ⟨its, r, pl, hz⟩ := I.list ha
 obtain ⟨its2, r2, pl2, hz2⟩ := I.list hb
 have l1 := r.length
 have l2 := r2.length
 have hu : X.A.units < cLine := by have := hr.un; omega
 have hu1 : X.A.in1.units < cLine := by have := hr.un; show X.A.units + 1 < cLine; omega
 refine SeqAt.eq_listAt (e := fun _ => true) pl.isList pl2.isList (by simp only [List.size_toArray]; omega) hu (fun j h1 h2 => ?_) ?_
 ·simp only [List.size_toArray] at h1 h2
  obtain ⟨x, e, rx⟩ := Qbx r j h1
  obtain ⟨x2, e2, rx2⟩ := Qbx r2 j h2
  simp only [List.getElem_toArray]
  exact I.eqT hu1 (he j x x2 e e2) rx rx2
 ·rw [show ((List.range its.toArray.size).all fun _ => true) = true by simp]
  exact ⟨.bl true, H, I, rfl, q⟩
theorem Qgv {cm : Bool} {k : Nat} (hr : Room cm k X.A) : OpR X (compareOp .NotEq) (fun x y H Q => ∃ a b xs ys, x = .ref a ∧ y = .ref b ∧ SqL X.K H a xs ∧ SqL X.K H b ys ∧ EqLs X.K H xs ys ∧ Q (.bl false) H) := by
 intro pins s σ H x y v u Q I rx ry h
 obtain ⟨a, b, xs, ys, rfl, rfl, ha, hb, ⟨hl, he⟩, q⟩ := h
 cases rx
 cases ry
 obtain ⟨its, r, pl, hz⟩ := I.list ha
 obtain ⟨its2, r2, pl2, hz2⟩ := I.list hb
 have l1 := r.length
 have l2 := r2.length
 have hu : X.A.units < cLine := by have := hr.un; omega
 have hu1 : X.A.in1.units < cLine := by have := hr.un; show X.A.units + 1 < cLine; omega
 refine SeqAt.RcNeAt.lists (e := fun _ => true) pl.isList pl2.isList (by simp only [List.size_toArray]; omega) hu (fun j h1 h2 => ?_) _ _ _ _ ?_
 ·simp only [List.size_toArray] at h1 h2
  obtain ⟨x, e, rx⟩ := Qbx r j h1
  obtain ⟨x2, e2, rx2⟩ := Qbx r2 j h2
  simp only [List.getElem_toArray]
  exact I.eqT hu1 (he j x x2 e e2) rx rx2
 ·rw [show ((List.range its.toArray.size).all fun _ => true) = true by simp]
  exact ⟨.bl false, H, I, rfl, q⟩
theorem EqLs.refl {K : Q4} {H : Hp} {xs : List V} (h : ∀ z ∈ xs, eqPl z = true) : EqLs K H xs xs := ⟨rfl, fun j x y e1 e2 => by
 rw [e1] at e2
 cases e2
 exact .inl ⟨rfl, h x (List.mem_of_getElem? e1)⟩⟩
def rInsert : V → List V → Hp → VK → Prop := fun x vs H Q => ∃ (l : Addr) (xs : List V) (k : Nat) (y : V), x = .ref l ∧ vs = [.int k, y] ∧ H l = some (.lst xs) ∧ k ≤ xs.length ∧ xs.length < 10 ^ 6 ∧ Q .non (upd H l (.lst (xs.take k ++ y :: xs.drop k)))
theorem Qh7 : MtM X "list.insert" rInsert := by
 intro pins s σ H x vs v us Q I rx rv h
 obtain ⟨l, xs, k, y, rfl, rfl, hH, hk, hz, q⟩ := h
 cases rx
 cases rv with
 | cons r1 rr =>
   obtain ⟨u, rfl, ru⟩ := Vals.one rr
   obtain ⟨t, rfl⟩ := r1
   obtain ⟨z, its, n, r, hl, e⟩ := I.lstM hH
   have hline : 10 ^ 6 ≤ sizeLine := by decide
   obtain ⟨x, hx⟩ : ∃ x : Int, x = (k : Int) := ⟨_, rfl⟩
   rw [← hx]
   have hfit : ¬ (!Builtin.List.listFitsIndex x) = true := by
    unfold Builtin.List.listFitsIndex
    rw [decide_eq_true (by omega : -(2 ^ 63 : Int) ≤ x), decide_eq_true (by omega : x < 2 ^ 63)]
    decide
   generalize hits : its.toArray = arr at e
   have hsz : arr.size ≤ sizeLine := by rw [← hits, List.size_toArray]; omega
   have M := PySem.AutoListH.list_insert_list_int_val_1 l arr n x t u hfit hsz
   refine call_meets F.slot_list_insert ⟨_, e, rfl⟩ F.entry_list_insert (F.args_list_insert_3 _ _ _) M ⟨e, ?_⟩
   subst hits
   refine ⟨.non, _, I.lset (its' := its.take k ++ u :: its.drop k) hH e ?_ ?_ ?_, rfl, q⟩
   ·have h1 : (if x < 0 then (x + ((its.toArray.size : Nat) : Int)).toNat else min x.toNat its.toArray.size) = k := by
     rw [if_neg (by omega), List.size_toArray]
     omega
    show (its.toArray.extract 0 (if x < 0 then (x + ((its.toArray.size : Nat) : Int)).toNat else min x.toNat its.toArray.size)).push u ++ its.toArray.extract (if x < 0 then (x + ((its.toArray.size : Nat) : Int)).toNat else min x.toNat its.toArray.size) = _
    rw [h1]
    apply Array.ext'
    simp
    exact List.take_of_length_le (by rw [List.length_drop]; exact Nat.le_refl _)
   ·exact (r.take k).append (.cons ru (r.drop k))
   ·rw [List.length_append, List.length_take, List.length_cons, List.length_drop]
    omega
def rJoin (K : Q4) : V → List V → Hp → VK → Prop := fun x vs H Q => ∃ (z : Str) (p : Addr) (zs : List Str), x = .str z ∧ vs = [.ref p] ∧ SqL K H p (zs.map V.str) ∧ JoinOk z zs = true ∧ Q (.str (Txt.join z zs)) H
theorem Qhm : ∀ {zs : List Str} {its : List Value}, Vals (zs.map V.str) its → ∃ l : List (Str × Tok), its = strValues l ∧ l.map (·.1) = zs
 | [], _, .nil => ⟨[], rfl, rfl⟩
 | z :: zs, _, .cons (b := v) r t => by
   obtain ⟨l, rfl, e⟩ := Qhm t
   obtain ⟨tk, rfl⟩ := r
   exact ⟨(z, tk) :: l, rfl, by rw [List.map_cons, e]⟩
theorem Qh6 : MtR X "str.join" (rJoin X.K) := by
 intro pins s σ H x vs v us Q I rx rv h
 obtain ⟨z, p, zs, rfl, rfl, hS, ok, q⟩ := h
 obtain ⟨t, rfl⟩ := rx
 obtain ⟨u, rfl, ru⟩ := rv.one
 cases ru
 obtain ⟨its, r, pl, hz⟩ := I.list hS
 obtain ⟨l, rfl, e⟩ := Qhm r
 exact SC.join (l := l) pl.isList e ok fun t' k => ⟨.str _, H, I.kept (t' := k) fun _ _ e => e, ⟨t', rfl⟩, q⟩
end
end L2
namespace L2
open PySem PySem.Spec PyProof.Rows L3
def tLCT (wi : TI) (g : TG) (te : TE) (n : Nat) (js : List Nat) : TE := fun σ H Q => wi σ H fun J H1 => ∃ W : Nat → Nat → List V → Hp → Prop, (∃ m, W 0 m [] H1) ∧ ∀ i m ys H, W i m ys H →
 (J.stop i H ∧ ∀ l, H l = none → Q (.ref l) (upd H l (.lst ys))) ∨ (J.go i H ∧ ys.length < sizeLine ∧ ∃ N : VK, (∀ y H2, N y H2 → ∃ m', m' < m ∧ W (i + 1) m' (ys ++ [y]) H2) ∧ ∀ x H', J.yld i H x H' → ∀ σ0 : St, σ0.length = n → g x (σ0 ++ js.map (fun j => σ.getD j none)) H' fun σ6 H6 => ∃ σ1 : St, σ1.length = n ∧ σ6 = σ1 ++ js.map (fun j => σ.getD j none) ∧ te σ6 H6 N)
section
variable {X : Cx}
structure LcOkT (X : Cx) (xs : List Str) (scope : Scope) (cl : List (Str × Addr)) (js : List Nat) : Prop where
 clos : closureFor scope X.env = pure cl
 sub : ∀ y c, cl.lookup y = some c → X.env.cells.lookup y = some c
 kind : scope.kind = .function
 cell : ∀ y ∈ scope.names, y.2 ≠ .cell
 names : ∀ y ∈ scope.names, y.2 = .local → scope.names.lookup y.1 = some .local
 loc : ∀ x ∈ xs, scope.names.lookup x = some .local
 has : ∀ y, (((relabel scope X.env).names.lookup y = some .cell) ∨ ((relabel scope X.env).names.lookup y = some .free)) → ∃ c, cl.lookup y = some c
 nd : (xs ++ js.map (fun j => X.N.getD j "")).Nodup
 fr : ∀ j ∈ js, ∃ y, X.N[j]? = some y ∧ X.env.kindOf y = some .cell ∧ (relabel scope X.env).names.lookup y = some .cell ∧ ∃ c, cl.lookup y = some c
theorem Inv.inCT {xs : List Str} {scope : Scope} {cl : List (Str × Addr)} {js : List Nat} {pins : Q3} {σ : St} {H2 : Hp} {s2 : Shared} {fp : List Addr} {C D : Addr} {h1 : Heap} {xe : Q0} {oD : Obj} {m0 : Str → Option Value}
 (L : LcOkT X xs scope cl js) (I2 : Inv X pins σ H2 s2) (f2 : ∀ b ∈ fp, FpOk X pins H2 b) (fo : ∀ b ∈ fp, ∃ o, s2.heap.get? b = some o) (hC : s2.heap.objs.size ≤ C) (hD : s2.heap.objs.size ≤ D) (hDC : D ≠ C)
 (old : ∀ b o, s2.heap.get? b = some o → h1.get? b = some o) (hns : h1.Ns C m0) (hoD : h1.get? D = some oD) (hdD : ∀ v, oD.data ≠ .cell v) {t' : Nat} :
 Inv (X.inC scope cl C s2 H2 fp (xs ++ js.map (fun j => X.N.getD j "")) xe) [(D, oD)] (xs.map (fun _ => none) ++ js.map (fun j => σ.getD j none)) H2 { s2 with heap := h1, toks := t' } where
 ok := {
  mod := I2.ok.mod
  kind := L.kind
  glob := I2.ok.glob
  blt := I2.ok.blt
  above := hC
  inj := fun a b c e1 e2 => I2.ok.inj a b c (L.sub a c e1) (L.sub b c e2)
  has := fun y hy => L.has y hy
  cab := fun _ _ z => nomatch z
  hd := I2.ok.hd
  frames := I2.ok.frames
  stk := .inl rfl
  exf := fun b hb => by
   obtain ⟨o, e⟩ := fo b hb
   refine ⟨Nat.ne_of_lt (Nat.lt_of_lt_of_le (Heap.lt_size e) hC), fun y c e' => ?_⟩
   exact (f2 b hb).2.2.2.2.1 y c (L.sub y c e')
  bs := fun b o e => I2.bs b o e
  bsz := Nat.le_trans I2.ok.bsz I2.sz
  noex := fun b o e hb => by
   rcases (f2 b hb).2.2.2.1 with z | z
   ·exact I2.ok.noex b o e z
   ·exact absurd (Nat.lt_of_lt_of_le (Heap.lt_size e) (Nat.le_trans I2.ok.bsz z)) (Nat.lt_irrefl _)
  exfs := fun b hb z => by
   rcases List.mem_cons.mp (I2.stkSub b z) with e | e
   ·exact (f2 b hb).2.1 e
   ·exact (f2 b hb).2.2.1 e
  funs := I2.stack
  frf := I2.stkFree }
 os := rfl
 bare := I2.bare
 base := Un.kept old
 loc := by
  refine ⟨m0, hns, fun i y v e1 e2 e3 => ?_⟩
  have hik : ¬ i < xs.length := fun z => by
   have e2' : (xs.map (fun _ => (none : Option V)) ++ js.map (fun j => σ.getD j none))[i]? = some (some v) := e2
   rw [List.getElem?_append_left (by rw [List.length_map]; exact z), List.getElem?_map] at e2'
   rw [List.getElem?_eq_getElem z] at e2'
   cases e2'
  have hsplit : ∃ k, i = xs.length + k := ⟨i - xs.length, by omega⟩
  obtain ⟨k, rfl⟩ := hsplit
  ·have e1' : (js.map (fun j => X.N.getD j ""))[k]? = some y := by
    have e1' : (xs ++ js.map (fun j => X.N.getD j ""))[xs.length + k]? = some y := e1
    rw [List.getElem?_append_right (by omega)] at e1'
    simpa using e1'
   have e2' : (js.map (fun j => σ.getD j none))[k]? = some (some v) := by
    have e2' : (xs.map (fun _ => (none : Option V)) ++ js.map (fun j => σ.getD j none))[xs.length + k]? = some (some v) := e2
    rw [List.getElem?_append_right (by rw [List.length_map]; omega)] at e2'
    simpa using e2'
   rw [List.getElem?_map] at e1' e2'
   cases hj : js[k]? with
   | none => rw [hj] at e1'; cases e1'
   | some j =>
     rw [hj] at e1' e2'
     obtain ⟨y', n1, n2, n3, c, n4⟩ := L.fr j (List.mem_of_getElem? hj)
     have e1'' : X.N.getD j "" = y := Option.some.inj e1'
     have e2'' : σ.getD j none = some v := Option.some.inj e2'
     have : y' = y := by
      rw [List.getD, n1] at e1''
      exact e1''
     subst this
     have hσ : σ[j]? = some (some v) := by
      rw [List.getD] at e2''
      cases q : σ[j]? with
      | none => rw [q] at e2''; cases e2''
      | some z => rw [q] at e2''; exact congrArg some e2''
     obtain ⟨m, hn, hl⟩ := I2.loc
     obtain ⟨u, r, l⟩ := hl j y' v n1 hσ (.inr (.inl n2))
     refine ⟨u, r, ?_⟩
     rcases l with ⟨k1, _⟩ | ⟨_, c', k2, k3⟩
     ·rw [n2] at k1; cases k1
     ·have : c' = c := by
       have := L.sub _ _ n4
       rw [k2] at this
       exact Option.some.inj this
      subst this
      obtain ⟨o, ho, hd⟩ := k3
      exact .inr ⟨.inl n3, c', n4, o, old _ _ ho, hd⟩
 cell := fun y c e => by
  obtain ⟨v, o, ho, hd⟩ := I2.cell y c (L.sub y c e)
  exact ⟨v, o, old _ _ ho, hd⟩
 free := I2.hok.fresh hC
 freeC := fun y c e => I2.freeC y c (L.sub y c e)
 pin := fun p hp => by
  have e : p = (D, oD) := by simpa [Cx.inC] using hp
  subst e
  refine ⟨hoD, I2.hok.fresh hD, hDC, fun z => ?_, hdD⟩
  rcases List.mem_cons.mp (I2.stkSub D z) with e | e
  ·exact absurd I2.lt (by rw [← e]; exact Nat.not_lt.mpr hD)
  ·exact I2.nofs hD e
 hok := I2.hok.kept old
 len := by simp [Cx.inC]
theorem Qj3 {elt iter tg : Expr} {g : TG} {xs : List Str} {pos cpos : Pos} {scope : Scope} {cl : List (Str × Addr)} {wi : TI} {te : TE} {js : List Nat} {use : Option (Value → Sem Unit)} {Qc : Q0} {pins : Q3} {s : Shared} {σ : St} {H : Hp} {Q : VK}
 (hc : X.calm = true) (L : LcOkT X xs scope cl js) (hi : PI X tg iter wi) (hg : ∀ C s2 H2 fp xe, PG (X.inC scope cl C s2 H2 fp (xs ++ js.map (fun j => X.N.getD j "")) xe) tg g)
 (he : ∀ C s2 H2 fp xe, PE (X.inC scope cl C s2 H2 fp (xs ++ js.map (fun j => X.N.getD j "")) xe) elt te)
 (hs : ∀ z, foldedSetIterable iter X.env z = pure z) (I : Inv X pins σ H s) (h : tLCT wi g te xs.length js σ H Q)
 (fin : ∀ (D C : Addr) (H4 : Hp) (s4 : Shared) (m : Str → Option Value), s4.heap.Ns C m → FpOk X pins H4 C → (∀ h', Heap.SameBut C s4.heap h' → Inv X pins σ H4 { s4 with heap := h' }) → Q (.ref D) H4 → compPost (model X.prog X.w) X.A X.xe use Qc (.ref D) C (.ok .next) s4) :
 wpAny (model X.prog X.w) X.A (comprehension (.ListComp elt [⟨tg, iter, [], 0⟩] scope pos) scope X.env cpos (newList []) false (eval iter X.env) use) Qc X.xe s := by
 refine wpAny_comprehension_free (cl := cl) (use := use) rfl hs L.clos L.kind L.names ?_
 refine thn (hi pins s σ H _ I h) fun v s1 h1 => thn h1 fun itv s2 h2 => ?_
 obtain ⟨it, fp, tn, J, H2, e, I2, T, st2, f2, W, ⟨k0, w0⟩, turn⟩ := h2
 subst e
 refine wpAny_newObj_type (wpAny_newFunctionEnv L.cell (by intro y hy; simp at hy) (fun h₁ hns₁ hsb₁ => ?_) L.kind)
 dsimp only at hns₁ hsb₁ ⊢
 generalize hH2 : s2.heap.push { cls := .type "list", dict := none, data := .seq ([] : List Value).toArray } = Hp2 at hns₁ hsb₁ ⊢
 have hC : Hp2.objs.size = s2.heap.objs.size + 1 := by rw [← hH2, Heap.size_push]
 generalize hD0 : s2.heap.objs.size = D at hC ⊢
 generalize hC0 : Hp2.objs.size = C at hC hns₁ hsb₁ ⊢
 have hDC : D ≠ C := by omega
 have below : ∀ b, b < D → b ≠ C := fun b hb => by omega
 have old : ∀ b o, s2.heap.get? b = some o → h₁.get? b = some o := fun b o e =>
  hsb₁.extBut b o (below b (by rw [← hD0]; exact Heap.lt_size e)) (Heap.get?_push_of_some _ (hH2 ▸ Heap.get?_push_of_some _ e))
 have hacc : h₁.get? D = some { cls := .type "list", data := .seq ([] : List Value).toArray 0 } := by
  subst hD0
  exact hsb₁.extBut _ _ hDC (Heap.get?_push_of_some _ (hH2 ▸ Heap.get?_push_size _ rfl))
 have fo : ∀ b ∈ fp, ∃ o, s2.heap.get? b = some o := fun b hb => let ⟨o, e, _⟩ := T.obj _ _ st2 b hb; ⟨o, e⟩
 have flt : ∀ b ∈ fp, b < D := fun b hb => let ⟨o, e⟩ := fo b hb; by rw [← hD0]; exact Heap.lt_size e
 have st1 : tn 0 h₁ := T.keep _ _ _ st2 fun b hb o e => old b o e
 let R := compPost (model X.prog X.w) X.A X.xe use Qc (.ref D) C
 let xe := notedBy (model X.prog X.w) X.A (compEnvC scope cl C X.env) fun e s' => R (.error e) s'
 let X' := X.inC scope cl C s2 H2 fp (xs ++ js.map (fun j => X.N.getD j "")) xe
 have I0 : ∀ {t' : Nat}, Inv X' [(D, _)] (xs.map (fun _ => none) ++ js.map (fun j => σ.getD j none)) H2 { s2 with heap := h₁, toks := t' } := fun {t'} =>
  Inv.inCT L I2 f2 fo (by omega) (by omega) hDC old hns₁ hacc (fun v z => by cases z)
 have fpk : ∀ {pD : Q3} {H' : Hp}, (∀ p ∈ pD, p.1 = D) → (∀ b ∈ fp, H' b = none) → ∀ b ∈ fp, FpOk X' pD H' b := fun {pD H'} hp hn b hb => by
  refine ⟨hn b hb, below b (flt b hb), fun z => ?_, .inl hb, fun y c e => (f2 b hb).2.2.2.2.1 y c (L.sub y c e), fun p hp' z => ?_⟩
  ·rcases List.mem_cons.mp (I2.stkSub b z) with e | e
   ·exact (f2 b hb).2.1 e
   ·exact (f2 b hb).2.2.1 e
  ·have q := hp p (by simpa [X', Cx.inC] using hp')
   have := flt b hb
   rw [← z, q] at this
   exact Nat.lt_irrefl _ this
 have loop : ∀ s3 : Shared, (∃ k i ys H' its n, ∃ σ0 : St, σ0.length = xs.length ∧ Inv X' [(D, { cls := .type "list", data := .seq (its : List Value).toArray n })] (σ0 ++ js.map (fun j => σ.getD j none)) H' s3 ∧ tn i s3.heap ∧ (∀ b ∈ fp, H' b = none) ∧ W i k ys H' ∧ Vals ys its ∧ ys.length ≤ sizeLine) →
  codeAny (model X.prog X.w) X.A (.compLoop (.ListComp elt [⟨tg, iter, [], 0⟩] scope pos) 0 (.ref it) (.ref D) (compEnvC scope cl C X.env)) R s3 := by
  rintro s3 ⟨k, hk⟩
  refine codeAny_loop rfl (fun k s3 => ∃ i ys H' its n, ∃ σ0 : St, σ0.length = xs.length ∧ Inv X' [(D, { cls := .type "list", data := .seq (its : List Value).toArray n })] (σ0 ++ js.map (fun j => σ.getD j none)) H' s3 ∧ tn i s3.heap ∧ (∀ b ∈ fp, H' b = none) ∧ W i k ys H' ∧ Vals ys its ∧ ys.length ≤ sizeLine) (fun k s3 hI => ?_) k hk
  obtain ⟨i, ys, H3, its, n, σ0, hσ0, I3, st3, fr3, w3, vy, hz⟩ := hI
  show wpAny _ _ ((compTurn (.ListComp elt [⟨tg, iter, [], 0⟩] scope pos) 0 (.ref it) (.ref D) (compEnvC scope cl C X.env)).onRaise (fun x => do noteFrame x (compEnvC scope cl C X.env); theTreesLotGoes x)) _ _ s3
  refine wpAny_noted ?_
  rw [compTurn_list1]
  have hpD : ∀ {o : Obj}, ∀ p ∈ [(D, o)], p.1 = D := fun p hp => by rw [List.mem_singleton.mp hp]
  refine wpAny_bind (wpAny_standAt (wpAny_bind ?_))
  rcases turn i k ys H3 w3 with ⟨stop, qn⟩ | ⟨go, hlen, N, hN, step⟩
  ·refine thn (T.done X' rfl rfl rfl hc i _ s3 _ H3 xe I3 (fpk hpD fr3) st3 stop) fun r s4 ⟨hr, I4⟩ => ?_
   subst hr
   refine wpAny_pure ?_
   obtain ⟨m, hn, _⟩ := I4.loc
   obtain ⟨eD, nD, _⟩ := I4.pin (D, _) (List.mem_append_right _ (List.mem_singleton.mpr rfl))
   have fC : FpOk X pins (upd H3 D (.lst ys)) C := I2.fpOk (by omega) (by
    rw [Qar (Ne.symm hDC)]
    exact I4.free)
   refine fin D C (upd H3 D (.lst ys)) s4 m hn fC (fun h' sb => ?_) (qn D nD)
   obtain ⟨hh, g, d, t, os'⟩ := s4
   obtain rfl : os' = s2.os := I4.os
   have kp : ∀ b o, b ≠ C → hh.get? b = some o → h'.get? b = some o := fun b o hb e => (sb.2 b hb).trans e
   have lt2 : ∀ b o, s2.heap.get? b = some o → b ≠ C ∧ b ≠ D := fun b o e => by
    have q : b < D := by rw [← hD0]; exact Heap.lt_size e
    exact ⟨below b q, Nat.ne_of_lt q⟩
   have B : Un (frs X.stack) fp H2 H3 s2.heap hh := I4.base
   have hDn : H3 D = none := nD
   have I5 : Inv X pins σ (upd H3 D (.lst ys)) { s2 with heap := h', gens := g, drawn := d, toks := t } := by
    refine I2.call (h' := h') (g' := g) (d' := d) (t' := t) (ch := fp) ⟨?_, ?_, ?_, ?_, ?_, ?_, ?_⟩ ?_ I4.bare ?_
    ·exact fun b o e n hb hx => kp b o (lt2 b o e).1 (B.keep b o e n hb hx)
    ·intro b o e n hb hx
     obtain ⟨sl, q⟩ := B.slot b o e n hb hx
     exact ⟨sl, kp b _ (lt2 b o e).1 q⟩
    ·intro b o e n hx
     rw [Qar (lt2 b o e).2]
     exact B.free b o e n hx
    ·intro b o e hx
     obtain ⟨o', q⟩ := B.there b o e hx
     exact ⟨o', kp b o' (lt2 b o e).1 q⟩
    ·intro b xs e
     have q := B.tups b xs e
     rw [Qar (Qal q hDn)]
     exact q
    ·intro b o u e
     have q := B.frzs b o u e
     rw [Qar (Qal q hDn)]
     exact q
    ·intro b ps e
     obtain ⟨more, q⟩ := B.tbls b ps e
     exact ⟨more, by rw [Qar (Qal q hDn)]; exact q⟩
    ·intro b u e
     by_cases hb : b = D
     ·subst hb
      rw [Qab] at e
      cases e
      exact ⟨hz, its, n, vy, kp _ _ hDC eD⟩
     ·rw [Qar hb] at e
      have nC : ∀ c o, H3 c = some o → c ≠ C := fun c o q => Qal q I4.free
      refine (I4.hok b u e).stay (fun c v hc' q => kp c v ?_ q) (fun c q => by rw [Qar (Qal q hDn)]; exact q) fun c xs q => by rw [Qar (Qal q hDn)]; exact q
      rcases hc' with z | z
      ·rw [z]; exact nC b u e
      ·exact nC c _ z
    ·intro b hb
     obtain ⟨_, f1, _, f3, f4, f5⟩ := f2 b hb
     exact ⟨f3, f1, f4, f5⟩
   exact I5
  ·refine thn (T.item X' rfl rfl rfl hc i _ s3 _ H3 xe I3 (fpk hpD fr3) st3 go) fun r s4 ⟨u, hr, h4⟩ => ?_
   subst hr
   refine wpAny_bind (thn h4 fun _ s5 ⟨xv, H5, I5, r5, y5, st5, fr5⟩ => ?_)
   have I5' := I5.pinned (fpk hpD fr5) (T.obj _ _ st5)
   refine wpAny_bind (thn (hg C s2 H2 fp xe _ s5 _ H5 xv u _ I5' r5 (step xv _ y5 σ0 hσ0)) fun _ s6 ⟨σ6, H6, I6, σ1, hσ1, e6, st6⟩ => ?_)
   subst e6
   refine wpAny_bind (wpAny_bind (thn (he C s2 H2 fp xe _ s6 _ _ _ I6 st6) fun y s7 ⟨yv, H7, I7, ry, n7⟩ => ?_))
   obtain ⟨m', hm, w7⟩ := hN yv H7 n7
   have I7' := I7.unpinned
   obtain ⟨eD, nD, neC, nfs, _⟩ := I7'.pin (D, _) (List.mem_append_right _ (List.mem_singleton.mpr rfl))
   have eD' : s7.heap.get? D = some { cls := .type "list", data := .seq its.toArray n } := eD
   have lv := vy.length
   refine wpAny_bind (call_meets F.slot_list_append ⟨_, eD', rfl⟩ F.entry_list_append (F.args_list_append_2 _ _) (PySem.list_append D its.toArray n y (by rw [List.size_toArray]; omega)) ⟨eD', ?_⟩)
   refine wpAny_pure (wpAny_pure ⟨rfl, m', hm, i + 1, ys ++ [yv], H7, its ++ [y], ?_⟩)
   have q := PySem.IsL.update eD' (fun a : Array Value => a.push y)
   have I8 : Inv X' [] (σ1 ++ js.map (fun j => σ.getD j none)) H7 { s7 with heap := s7.heap.update D (Obj.mapSeq (fun a : Array Value => a.push y)) } :=
    (I7'.Qcj (pins' := []) (fun p hp => nomatch hp)).turned (t' := s7.toks) (it := D) (fun b o hb e => (Heap.get?_update_other s7.heap _ (Ne.symm hb)).trans e) nD neC (.inr (by show s2.heap.objs.size ≤ D; omega))
     (fun z c e w => by
      obtain ⟨v', o', ho', _⟩ := I2.cell z c (L.sub z c e)
      have := Heap.lt_size ho'
      rw [w, hD0] at this
      exact Nat.lt_irrefl _ this) (fun p hp => nomatch hp)
   have pinf : ∀ b ∈ fp, ∀ o, s5.heap.get? b = some o → s7.heap.get? b = some o ∧ H7 b = none := fun b hb o e => by
    have z := I7.pin (b, o) (List.mem_append_right _ (List.mem_append_right _ (Qbt hb e)))
    exact ⟨z.1, z.2.1⟩
   obtain ⟨n', q'⟩ : ∃ n', (s7.heap.update D (Obj.mapSeq (fun a : Array Value => a.push y))).get? D = some { cls := .type "list", data := .seq (its ++ [y]).toArray n' } := by
    rw [show (its ++ [y]).toArray = its.toArray.push y by simp]
    exact ⟨_, q⟩
   refine ⟨n', σ1, hσ1, I8.Qcj fun p hp => ?_, ?_, fun b hb => ?_, w7, vy.append (.cons ry .nil), by rw [List.length_append, List.length_singleton]; omega⟩
   ·rw [List.mem_singleton.mp hp]
    exact ⟨q', nD, neC, nfs, fun v z => by cases z⟩
   ·refine T.keep _ _ _ st5 fun b hb o e => ?_
    have hb' : D ≠ b := fun z => by
     have := flt b hb
     rw [← z] at this
     exact Nat.lt_irrefl _ this
    exact (Heap.get?_update_other s7.heap _ hb').trans (pinf b hb o e).1
   ·obtain ⟨o, e, _⟩ := T.obj _ _ st5 b hb
    exact (pinf b hb o e).2
 have start : ∀ {t' : Nat}, ∃ k i ys H' its n, ∃ σ0 : St, σ0.length = xs.length ∧ Inv X' [(D, { cls := .type "list", data := .seq (its : List Value).toArray n })] (σ0 ++ js.map (fun j => σ.getD j none)) H' { s2 with heap := h₁, toks := t' } ∧ tn i h₁ ∧ (∀ b ∈ fp, H' b = none) ∧ W i k ys H' ∧ Vals ys its ∧ ys.length ≤ sizeLine := fun {t'} =>
  ⟨k0, 0, [], H2, [], 0, xs.map (fun _ => none), List.length_map .., I0, st1, fun b hb => (f2 b hb).1, w0, .nil, Nat.zero_le _⟩
 exact codeAny_compStart_list (loop _ start) (T.self X.A 0 _ _ _ st1 (loop _ start))
theorem Qd7 {elt iter tg : Expr} {g : TG} {xs : List Str} {pos : Pos} {scope : Scope} {cl : List (Str × Addr)} {wi : TI} {te : TE} (js : List Nat) (hc : X.calm = true) (L : LcOkT X xs scope cl js) (hi : PI X tg iter wi)
 (hg : ∀ C s2 H2 fp xe, PG (X.inC scope cl C s2 H2 fp (xs ++ js.map (fun j => X.N.getD j "")) xe) tg g)
 (he : ∀ C s2 H2 fp xe, PE (X.inC scope cl C s2 H2 fp (xs ++ js.map (fun j => X.N.getD j "")) xe) elt te)
 (hs : ∀ z, foldedSetIterable iter X.env z = pure z := by intro _; rfl) :
 PE X (.ListComp elt [⟨tg, iter, [], 0⟩] scope pos) (tLCT wi g te xs.length js) := by
 intro pins s σ H Q I h
 rw [eval_ListComp]
 exact Qj3 (use := none) hc L hi hg he hs I h fun D C H4 s4 m hn _ I4 q => ⟨m, hn, fun h' sb => ⟨.ref D, H4, I4 h' sb, rfl, q⟩⟩
theorem LcOkT.plain {X : Cx} {xs : List Str} {scope : Scope} (hfree : ∀ y ∈ scope.names, y.2 ≠ .free) (hcell : ∀ y ∈ scope.names, y.2 ≠ .cell) (hkind : scope.kind = .function) (hnames : ∀ y ∈ scope.names, y.2 = .local → scope.names.lookup y.1 = some .local)
 (hloc : ∀ x ∈ xs, scope.names.lookup x = some .local) (hnd : xs.Nodup) : LcOkT X xs scope [] [] where
 clos := closureFor_none hfree
 sub := fun _ _ e => nomatch e
 kind := hkind
 cell := hcell
 names := hnames
 loc := hloc
 has := fun y h => by
  rcases h with h | h
  ·exact (Qbb hfree hcell h).elim
  ·exact (Qbb hfree hfree h).elim
 nd := by simpa using hnd
 fr := fun _ h => nomatch h
end
end L2
namespace L2
open PySem PySem.Spec PyProof.Rows PySem.W PySem.Calls L3
theorem Qje : ∀ {ns : List Int}, WData.weightAll (ns.map WData.int) ≤ 2 ^ 20 → ∀ w ∈ ns, Builtin.Int.intBits w ≤ 2 ^ 20
 | [], _, w, h => nomatch h
 | n :: ns, h, w, hw => by
   have h' : WData.weight (.int n) + 1 + WData.weightAll (ns.map WData.int) ≤ 2 ^ 20 := h
   rcases List.mem_cons.mp hw with rfl | m
   ·have e : WData.weight (.int w) = if w == 0 then 0 else w.natAbs.log2 + 1 := rfl
    rw [e] at h'
    unfold Builtin.Int.intBits
    by_cases c : w = 0
    ·subst c
     simp
    ·simp [c] at h' ⊢
     omega
   ·exact Qje (by omega) w m
theorem Qfk {l : OpenLaw} {n : Nat} {q : Program} {loose : List Str} {XP : (Str → Option Value) → Heap → Prop} {YP : World → Heap → Prop} {d : DefRec}
 (hn : l.most = some n) (hdf : d.params.defaults = [])
 (call : ∀ (w : World) (s₀ s₁ : Shared) (mg mb : Str → Option Value) (fa : Addr) (o : Obj) (pm cd doc : Value) (a : Addr) (vs : List Value) (ns : List Int),
  Ground q loose [] XP w s₀ mg mb s₁.heap → YP w s₁.heap →
  s₁.heap.get? fa = some o → o.data = .func (docDef d.name d.params d.body d.scope pm cd doc) → s₁.heap.CodeRec cd d.name → mg d.name = some (.ref fa) →
  s₁.heap.get? a = some { cls := .type "list", data := .seq vs.toArray } → IntsAre vs ns → ns.length ≤ n → (∀ w ∈ ns, Builtin.Int.intBits w ≤ 2 ^ 20) → s₁.gens = #[] →
  codeAny (model l.prog w) callerA (.call (.ref fa) ⟨[.ref a], []⟩) (fun r s' => r = .ok (.ret (.bool true)) ∧ OldK s₁.heap s'.heap ∧ s'.os = s₁.os ∧ AllBare s'.gens) s₁) :
 WalkO q loose XP YP l.row.toRowW d [] (fun f vs => PySem.call f vs) := by
 intro w s₀ s₁ mg mb G Y fa o pm cd doc dV kV ho hd hcd hD hmg hg args vals as hpre hlay hrd hwl hlo
 obtain rfl : dV = .none := Dflts.none hD hdf
 obtain rfl : kV = .none := Dflts.noKw hD
 obtain ⟨a, vs, ns, rfl, rfl, hobj, hints, hlen⟩ := Att.Qhp hn hpre hwl
 have hb : ∀ w ∈ ns, Builtin.Int.intBits w ≤ 2 ^ 20 := by
  have h1 : WData.layable (.list (ns.map WData.int)) = true := by
   have := hlay
   unfold WData.layableAll at this
   simpa using this
  unfold WData.layable at h1
  rw [Bool.and_eq_true, decide_eq_true_eq] at h1
  exact Qje h1.2
 refine enter_call (codeAny_mono (call w s₀ s₁ mg mb fa o pm cd doc a vs ns G Y ho (fd_plain hd) hcd hmg hobj hints hlen hb hg) fun r s' hq => ?_)
 obtain ⟨rfl, h2, h3, h4⟩ := hq
 exact ⟨.inl ⟨.bool true, .bool true, [], rfl, fun _ => rfl, .bool true, Att.Qhv l _, fun _ => ⟨List.Pairwise.nil, fun _ hm => (nomatch hm)⟩⟩, h2, h3, h4⟩
theorem Qjk {l : PySem.W.OpenLaw} {n k : Nat} {q : Program} {loose : List Str} {XP : (Str → Option Value) → Heap → Prop} {YP : World → Heap → Prop} {d : DefRec} {K : Params → PySem.W.Frag} {CX : World → CXT} {sp : World → Sp} {x : Str}
 (hn : l.most = some n) (hn2 : n ≤ sizeLine) (hdf : d.params.defaults = []) (hr : Room true k callerA)
 (hY : ∀ (w : World) (h : Heap), YP w h → (K w.params).In h)
 (F : ∀ (w : World) (mg : Str → Option Value) (fa : Addr) (h : Heap), (K w.params).In h → h.Ns mainGlobals mg → mg d.name = some (.ref fa) →
  ∃ fd : FuncData, (∀ (s : Shared) (u : Value), BindsTo s fd ⟨[u], []⟩ [(x, u)]) ∧
    ∀ base : Heap, (K w.params).In base → base.Ns mainGlobals mg → FnOk l.prog w (K w.params) mg base (CX w) true k fa fd [x] (sp w))
 (hsp : ∀ (w : World) (H : Hp) (a : Addr) (ns : List Int), ns.length ≤ n → (∀ w ∈ ns, Builtin.Int.intBits w ≤ 2 ^ 20) → Only H → SqL (K w.params) H a (ns.map V.int) → sp w [.ref a] H (fun v _ => v = .bl true) fun _ _ _ => False)
 (hCX : ∀ (w : World) (H : Hp) (s : Shared) (e : Value) (s' : Shared), CX w [] H s (fun _ _ _ => False) e s' → False) :
 PySem.W.WalkO q loose XP YP l.row.toRowW d [] (fun f vs => PySem.call f vs) := by
 refine Qfk hn hdf fun w s₀ s₁ mg mb fa o pm cd doc a vs ns G Y ho hd hcd hmg hobj hints hlen hb2 hg => ?_
 have KX := hY w _ Y
 obtain ⟨fd, hb, hF⟩ := F w mg fa _ KX G.T.g hmg
 exact Qj4 KX G.T.g G.T.b G.T.builtins G.T.nolimit hg hobj hints (Nat.le_trans hlen hn2) hr hF hb (fun H hO hS => hsp w H a ns hlen hb2 hO hS) fun H e s' => hCX w H s₁ e s'
end L2
namespace L2
open PySem PySem.Spec PyProof.Rows L3
theorem Qbj {K : Q4} {a : Addr} {xs : List V} {T : V → Hp → VK → Prop} {B : V → Hp → (Bool → Hp → Prop) → Prop} {R : Addr → Hp → List V → Prop} {H : Hp} (Pv : Nat → List V → Hp → Prop) (h0 : Pv 0 [] H) (hn : xs.length ≤ sizeLine) (hl : ∀ i ys H, i ≤ xs.length → Pv i ys H → SqL K H a xs ∧ ys.length ≤ i)
 (hs : ∀ i x ys H, xs[i]? = some x → Pv i ys H → B x H fun b H2 => if b = true then T x H2 (fun y H3 => Pv (i + 1) (ys ++ [y]) H3) else Pv (i + 1) ys H2) (hd : ∀ ys H, Pv xs.length ys H → ∀ l, H l = none → R l H ys) :
 ∃ W : Nat → Nat → List V → Hp → Prop, (∃ m, W 0 m [] H) ∧ ∀ i m ys H, W i m ys H →
   ((Itl K a).stop i H ∧ ∀ l, H l = none → R l H ys) ∨ ((Itl K a).go i H ∧ ys.length < sizeLine ∧ ∃ (N : VK) (S : Hp → Prop), (∀ y H2, N y H2 → ∃ m', m' < m ∧ W (i + 1) m' (ys ++ [y]) H2) ∧ (∀ H2, S H2 → ∃ m', m' < m ∧ W (i + 1) m' ys H2) ∧
     ∀ x H', (Itl K a).yld i H x H' → B x H' fun b H2 => if b = true then T x H2 N else S H2) := by
 refine ⟨fun i m ys H => m = xs.length - i ∧ i ≤ xs.length ∧ Pv i ys H, ⟨xs.length, by simp, Nat.zero_le _, h0⟩, ?_⟩
 rintro i m ys H ⟨rfl, hi, p⟩
 obtain ⟨q, hy⟩ := hl i ys H hi p
 by_cases hlt : i < xs.length
 ·refine .inr ⟨⟨xs, xs[i], q, by simp [hlt]⟩, by omega, fun y H2 => Pv (i + 1) (ys ++ [y]) H2, fun H2 => Pv (i + 1) ys H2, fun y H2 p' => ⟨xs.length - (i + 1), by omega, rfl, hlt, p'⟩, fun H2 p' => ⟨xs.length - (i + 1), by omega, rfl, hlt, p'⟩, fun x H' ⟨e, y⟩ => ?_⟩
  subst e
  exact hs i x ys _ (y xs q) p
 ·have e : i = xs.length := by omega
  subst e
  exact .inl ⟨⟨xs, q, Nat.le_refl _⟩, hd ys H p⟩
theorem Qgq {X : Cx} {xs : List Str} {scope : Scope} {cl : List (Str × Addr)} {js : List Nat} {C : Addr} {s2 : Shared} {H2 : Hp} {fp : List Addr} {xe : Q0} {i : Nat} {x : Str} {px : Pos} (L : LcOkT X xs scope cl js) (hi : (xs ++ js.map (fun j => X.N.getD j ""))[i]? = some x) (hx : x ∈ xs) :
 PG (X.inC scope cl C s2 H2 fp (xs ++ js.map (fun j => X.N.getD j "")) xe) (.Name x px) (gName i) :=
 Qau (X := X.inC scope cl C s2 H2 fp (xs ++ js.map (fun j => X.N.getD j "")) xe) L.nd hi (Or.inl (lookup_relabel_local (L.loc x hx))) (Or.inr (lookup_relabel_local (L.loc x hx)))
theorem Qcq {X : Cx} {x1 x2 : Str} {p1 p2 pos : Pos} {k : Nat} {scope : Scope} {cl : List (Str × Addr)} {js : List Nat} (hc : X.calm = true) (L : LcOkT X [x1, x2] scope cl js) :
 ∀ (C : Addr) (s2 : Shared) (H2 : Hp) (fp : List Addr) (xe : Q0), PG (X.inC scope cl C s2 H2 fp ([x1, x2] ++ js.map (fun j => X.N.getD j "")) xe) (.Tuple [.Name x1 p1, .Name x2 p2] k pos) (gTup X.K 2 (gCons (gName 0) (gCons (gName 1) gNil))) := fun C s2 H2 fp xe =>
 Qc6 (X := X.inC scope cl C s2 H2 fp ([x1, x2] ++ js.map (fun j => X.N.getD j "")) xe) hc (Qa2 (Qgq (i := 0) L rfl List.mem_cons_self) (Qa2 (Qgq (i := 1) L rfl (List.mem_cons_of_mem _ List.mem_cons_self)) Qcb))
theorem Qig {zs : List Str} (h : zs.length ≤ 8) (h1 : ∀ z ∈ zs, z.length = 1) : JoinOk "" zs = true := by
 unfold JoinOk
 rw [Bool.not_eq_true', StrLaws.joinTotal]
 have s : (zs.map (·.length)).sum = zs.length := by
  clear h
  induction zs with
  | nil => rfl
  | cons z r ih =>
    rw [List.map_cons, List.sum_cons, ih fun y hy => h1 y (List.mem_cons_of_mem _ hy), h1 z List.mem_cons_self, List.length_cons]
    omega
 rw [s]
 have e : ("" : Str).length = 0 := rfl
 rw [e]
 unfold Builtin.Str.tooLong
 have hline : 600 ≤ sizeLine := by decide
 exact decide_eq_false (by omega)
end L2
namespace PySem.W
open PySem PySem.Calls PyProof.Rows PyProof.V PySem.Spec
section
variable {prog : Program} {w : World} {A : Around} {E : Q0}
theorem Qhc : typeLookup (.type "list") "keys" = pure none := by rw [typeLookup_type, builtinLookup_eq_fast]; kernel_rfl
theorem Qd3 {s : Shared} {a : Addr} {o : Obj} {xs : Array Value} {k : Nat} {Q : Option Value → Shared → Prop} (hx : s.heap.get? a = some o) (hc : o.cls = .type "list") (hdat : o.data = .seq xs k) (hd : o.dict = none) (hA : A.handled = none)
 (hq : ∀ h' tk e, Heap.NewExcOf s.heap h' e "AttributeError" → Q none { s with heap := h', toks := tk }) :
 wpAny (model prog w) A (getAttr? (.ref a) "keys") Q E s := by
 obtain ⟨c, dct, dat, sl⟩ := o
 simp only at hc hdat hd
 subst hc hdat hd
 obtain ⟨hp, g, d, tk, os⟩ := s
 have hT : ∀ tk', (⟨hp, g, d, tk', os⟩ : Shared).TypeIs (.ref a) "list" := fun _ => ⟨_, hx, rfl⟩
 have f1 := sub_AttributeError
 have f3 := F.slot_list_getattribute.lookup
 have f4 := F.slot_list_getattribute.bind (.ref a)
 have f5 := am_list_getattr_none
 have hname : (["__module__", "__name__", "__qualname__", "__doc__", "__annotations__"] : List Str).contains "keys" = false := by decide+kernel
 have hsz : ("keys" : Str).length + 100 ≤ sizeLine := by decide+kernel
 unfold getAttr? getAttrBy? getAttrBy
 repeat (any_goals (first | assumption | exact hT _ | ((with_reducible show wpAny _ _ (call (Value.builtin "list.__getattribute__") _ _) _ _ _); refine call_meets F.slot_list_getattribute (hT _) am_entry_list_getattribute (F.args_list_getattribute_2 _ _) (meets_getattribute_miss_list a xs k sl "keys" _ Qhc hname hsz) ⟨hx, hA, fun h' tk' e hx' => ?_⟩) | wp_step))
 obtain ⟨t', u', he⟩ := hx'.there
 show wpAny _ _ (getattributeRaised _ _ _ _ _ _ _) _ _ _
 unfold getattributeRaised
 repeat (any_goals (first | assumption | wp_step))
 exact hq _ _ _ hx'.of
theorem Qcw : entryFor table "dict.update.loop" = some Builtin.«dict.update.loop» := entryFor_of_fast (by kernel_rfl)
theorem Qb0 : plainId "dict.update.loop" = true := by decide+kernel
variable {K : Type} [DecidableEq K] {knd : KeyKind prog w K}
structure PairAt (knd : KeyKind prog w K) (h : Heap) (v : Value) (k : K) (x : Value) : Prop where
 is : ∃ a key, v = .ref a ∧ knd.is k key = true ∧ IsTup h a #[key, x]
theorem Qjy {s : Shared} {d : Addr} {kvs : List (K × Value)} {v x : Value} {k : K} {Q : Unit → Shared → Prop} (i : Int) (p : PairAt knd s.heap v k x) (hm : s.heap.DictOf knd d kvs) (hsz : kvs.length ≤ sizeLine)
 (hQ : ∀ h', h'.DictOf knd d (stored kvs k x) → Heap.SameBut d s.heap h' → Q () { s with heap := h', toks := s.toks + 1 }) :
 wpAny (model prog w) A (holding [v] (do
  let pair ← (Builtin.Dict.pairItems v).tryCatch fun e => do
   if !(← isInstance e (.type "TypeError")) then throw e
   rule "dict.update.element-no-sequence"
   raiseError "TypeError" s!"cannot convert dictionary update sequence element #{i} to a sequence"
  match pair with
  | [k, v] => holding [k, v] (dictSet d k v)
  | l =>
    rule "dict.update.element-length"
    raiseError "ValueError" s!"dictionary update sequence element #{i} has length {l.length}; 2 is required")) Q E s := by
 obtain ⟨a, key, rfl, hk, o, ho, hc, n, hd⟩ := p.is
 refine wpAny_holding ?_
 have hT : s.TypeIs (.ref a) "tuple" := ⟨o, ho, hc⟩
 refine wpAny_bind (wpAny_tryCatch ?_)
 unfold Builtin.Dict.pairItems
 refine wpAny_bind (wpAny_typeOf hT ?_)
 rw [if_pos (by decide+kernel)]
 refine wpAny_bind (wpAny_seqItems ho hd (wpAny_pure ?_))
 show wpAny _ _ (holding [key, x] (dictSet d key x)) _ _ _
 exact wpAny_holding (wpAny_dictSet_pairs hk hm hQ hsz)
def storedAll (kvs : List (K × Value)) (ps : List (K × Value)) : List (K × Value) := ps.foldl (fun acc p => stored acc p.1 p.2) kvs
theorem Qjm {s : Shared} {d it l : Addr} {items : List Value} {ps : List (K × Value)} {R : Result → Shared → Prop} (hh : A.handled = none) (hdi : d ≠ it) (hil : it ≠ l) (hdl : d ≠ l) (hlen : items.length = ps.length) (hn : ps.length ≤ 10 ^ 6) {h₁ : Heap}
 (old : ∀ (j : Nat) v p, items[j]? = some v → ps[j]? = some p → PairAt knd h₁ v p.1 p.2 ∧ v ≠ .ref d ∧ v ≠ .ref it)
 (hR : ∀ h' tk, h'.DictOf knd d (storedAll [] ps) → (∀ b o, b ≠ d → b ≠ it → h₁.get? b = some o → h'.get? b = some o) → R (.ok (.ret .none)) { s with heap := h', toks := tk }) :
 ∀ (k i : Nat) (h : Heap) (tk : Nat), ps.length - i = k → i ≤ ps.length → h.IsListIter it l i → h.IsList l items.toArray → h.DictOf knd d (storedAll [] (ps.take i)) → (∀ b o, b ≠ d → b ≠ it → h₁.get? b = some o → h.get? b = some o) →
   codeAny (model prog w) A (.builtin "dict.update.loop" ⟨[.ref d, .ref it, rawInt i, .none], []⟩) R { s with heap := h, toks := tk } := by
 have hline : 10 ^ 6 ≤ sizeLine := by decide
 have hst : ∀ (n : Nat), (storedAll ([] : List (K × Value)) (ps.take n)).length ≤ n := by
  intro n
  have all : ∀ (qs kvs : List (K × Value)), (storedAll kvs qs).length ≤ kvs.length + qs.length := by
   intro qs
   induction qs with
   | nil => intro kvs; exact Nat.le_refl _
   | cons q qs ih =>
     intro kvs
     have h1 := ih (stored kvs q.1 q.2)
     have h2 : (stored kvs q.1 q.2).length ≤ kvs.length + 1 := by
      unfold stored
      split <;> simp
     show (storedAll (stored kvs q.1 q.2) qs).length ≤ _
     rw [List.length_cons]
     omega
  have := all (ps.take n) []
  rw [List.length_take] at this
  simp at this
  omega
 intro k
 induction k with
 | zero =>
   intro i h tk hk hi hit hl hm keep
   have hin : i = ps.length := by omega
   subst hin
   refine codeAny_builtin Qcw ?_
   rw [Around.under_plainId Qb0 _]
   show wpAny _ A.in1 (pyNext (.ref it) >>= _) _ _ _
   refine wpAny_bind (wpAny_pyNext_list_end (s := { s with heap := h, toks := tk }) hh hit hl (by simp [hlen]) fun h' he => ?_)
   rw [List.take_length] at hm
   refine wpAny_bind (wpAny_pure ?_)
   refine wpAny_pure (hR h' tk (hm.extBut he hdi) fun b o h1 h2 e => he b o h2 (keep b o h1 h2 e))
 | succ k ih =>
   intro i h tk hk hi hit hl hm keep
   have hlt : i < ps.length := by omega
   obtain ⟨v, hv⟩ : ∃ v, items[i]? = some v := ⟨items[i], List.getElem?_eq_getElem (by omega)⟩
   obtain ⟨p, hp⟩ : ∃ p, ps[i]? = some p := ⟨ps[i], List.getElem?_eq_getElem hlt⟩
   obtain ⟨⟨a, key, rfl, hkk, o, ho, hc, n, hd⟩, nd, ni⟩ := old i v p hv hp
   refine codeAny_builtin Qcw ?_
   rw [Around.under_plainId Qb0 _]
   show wpAny _ A.in1 (pyNext (.ref it) >>= _) _ _ _
   refine wpAny_bind (wpAny_pyNext_list_item (s := { s with heap := h, toks := tk }) hit hl (x := .ref a) (by simpa using hv) fun h' hit' sb => ?_)
   have ad : a ≠ d := fun e => nd (by rw [e])
   have ai : a ≠ it := fun e => ni (by rw [e])
   have ha' : h'.get? a = some o := (sb.2 a ai).trans (keep a o ad ai ho)
   refine wpAny_bind (Qjy (s := { s with heap := h', toks := tk }) (knd := knd) (i : Int) (k := p.1) (x := p.2) ⟨a, key, rfl, hkk, o, ha', hc, n, hd⟩ (hm.extBut sb.extBut hdi) (Nat.le_trans (hst i) (by omega)) fun h2 hm2 sb2 => ?_)
   refine wpAny_pure ⟨plainId_quiet Qb0 _, ?_⟩
   have := ih (i + 1) h2 (tk + 1) (by omega) hlt ?_ ?_ ?_ ?_
   ·exact this
   ·obtain ⟨oi, h1, h3⟩ := hit'
    exact ⟨oi, (sb2.2 it (Ne.symm hdi)).trans h1, h3⟩
   ·obtain ⟨ol, h1, h3⟩ := hl
    exact ⟨ol, (sb2.2 l (Ne.symm hdl)).trans ((sb.2 l (Ne.symm hil)).trans h1), h3⟩
   ·rw [List.take_succ, hp]
    unfold storedAll at hm2 ⊢
    rw [List.foldl_append]
    exact hm2
   ·intro b o' h1 h2' e
    exact (sb2.2 b h1).trans ((sb.2 b h2').trans (keep b o' h1 h2' e))
theorem Qd0 {s : Shared} {l : Addr} {o : Obj} {n : Nat} {items : List Value} {ps : List (K × Value)} {Q : Q0} (hh : A.handled = none) (ho : s.heap.get? l = some o) (hc : o.cls = .type "list") (hd : o.dict = none) (hdat : o.data = .seq items.toArray n) (hlen : items.length = ps.length) (hn : ps.length ≤ 10 ^ 6)
 (old : ∀ (j : Nat) v p, items[j]? = some v → ps[j]? = some p → PairAt knd s.heap v p.1 p.2)
 (hQ : ∀ h' tk, h'.DictOf knd s.heap.objs.size (storedAll [] ps) → (∀ b o, s.heap.get? b = some o → h'.get? b = some o) → Q (.ref s.heap.objs.size) { s with heap := h', toks := tk }) :
 wpAny (model prog w) A (call (.type "dict") [.ref l]) Q E s := by
 refine callType_codes (Q₁ := fun obj s₁ => obj = .ref s.heap.objs.size ∧ s₁ = { s with heap := s.heap.push { cls := .type "dict", data := .dict #[] } }) F.kt_called_dict (F.kt_typeCall_dict_1 _) F.entry_dict_init (kt_code_dict_new _ ⟨rfl, rfl⟩) ?_
 rintro obj s₁ ⟨rfl, rfl⟩
 have hnew : (s.heap.push { cls := .type "dict", data := .dict #[] }).DictOf knd s.heap.objs.size [] := Heap.DictOf.new s.heap
 have ho' : (s.heap.push { cls := .type "dict", data := .dict #[] }).get? l = some o := Heap.get?_push_of_some _ ho
 have hll : l < s.heap.objs.size := Heap.lt_size ho
 refine ⟨hnew.typeIs, F.args_dict_init_2 _ _, ?_⟩
 unfold Builtin.«dict.__init__»
 refine wpAny_bind ?_
 unfold Builtin.Dict.selfAndRest
 refine wpAny_bind (wpAny_notOrdered_dict hnew.typeIs ?_)
 show wpAny _ _ (pure (s.heap.objs.size, [Value.ref l])) _ _ _
 refine wpAny_pure ?_
 show wpAny _ _ (Builtin.Dict.updateFrom "dict.__init__" s.heap.objs.size (.ref l) [] .none) _ _ _
 unfold Builtin.Dict.updateFrom
 refine wpAny_bind (wpAny_typeOf (T := "list") ⟨_, ho', hc⟩ ?_)
 rw [if_pos (by decide+kernel)]
 refine wpAny_bind ?_
 refine Qd3 (s := { s with heap := s.heap.push { cls := .type "dict", data := .dict #[] } }) ho' hc hdat hd hh fun h' tk e hx => ?_
 rw [if_pos (show (none : Option Value).isNone = true from rfl)]
 refine wpAny_bind (wpAny_rule ?_)
 have hk1 : ∀ b ob, s.heap.get? b = some ob → h'.get? b = some ob := fun b ob hb => hx.keeps b ob (Heap.get?_push_of_some _ hb)
 have hl' : h'.IsList l items.toArray := ⟨o, hk1 l o ho, hc, n, hdat⟩
 have hd' : h'.DictOf knd s.heap.objs.size [] := by
  obtain ⟨od, es, ep, h1, r⟩ := hnew
  exact ⟨od, es, ep, hx.keeps _ _ h1, r⟩
 have hlt' : s.heap.objs.size < h'.objs.size := by
  obtain ⟨od, es, ep, h1, r⟩ := hd'
  exact Heap.lt_size h1
 refine wpAny_bind (wpAny_pyIter_list (s := { s with heap := h', toks := tk }) hl' ?_)
 refine wpAny_pure ⟨plainId_quiet Qb0 _, ?_⟩
 have hold : ∀ b ob, s.heap.get? b = some ob → (h'.push { cls := .type "list_iterator", data := .fields #[.ref l, .int 0 0] }).get? b = some ob := fun b ob hb => Heap.get?_push_of_some _ (hk1 b ob hb)
 refine Qjm (s := s) (A := A.in1) (knd := knd) (d := s.heap.objs.size) (it := h'.objs.size) (l := l) (items := items) (ps := ps) (h₁ := s.heap) hh (Nat.ne_of_lt hlt') (Nat.ne_of_gt (Nat.lt_trans hll hlt')) (Nat.ne_of_gt hll) hlen hn (fun j v p e1 e2 => ?_) (fun h2 tk2 dd keep => ?_) ps.length 0 _ _ (Nat.sub_zero _) (Nat.zero_le _) ⟨_, Heap.get?_push_size _ rfl, rfl, rfl⟩ ⟨o, Heap.get?_push_of_some _ (hk1 l o ho), hc, n, hdat⟩ (hd'.push _) (fun b ob _ _ hb => hold b ob hb)
 ·have q := old j v p e1 e2
  obtain ⟨a, key, rfl, hkk, o2, ho2, hc2, n2, hd2⟩ := q.is
  have hal := Heap.lt_size ho2
  refine ⟨q, fun z => ?_, fun z => ?_⟩
  ·injection z with z
   exact absurd hal (by rw [z]; exact Nat.lt_irrefl _)
  ·injection z with z
   exact absurd (Nat.lt_trans hal hlt') (by rw [z]; exact Nat.lt_irrefl _)
 ·refine ⟨rfl, hQ h2 tk2 dd fun b ob hb => keep b ob (Nat.ne_of_lt (Heap.lt_size hb)) ?_ hb⟩
  exact Nat.ne_of_lt (Nat.lt_trans (Heap.lt_size hb) hlt')
end
end PySem.W
namespace L2
open PySem PySem.Spec PyProof.Rows L3
section
variable {X : Cx}
def putAll (kvs : List (Key × V)) (ps : List (Key × V)) : List (Key × V) := ps.foldl (fun acc p => putK acc p.1 p.2) kvs
theorem KV.putAll : ∀ {ps : List (Key × V)} {qs : List (Key × Value)} {kvs : List (Key × V)} {vs : List (Key × Value)}, KV ps qs → KV kvs vs → KV (putAll kvs ps) (PySem.W.storedAll vs qs) := by
 intro ps qs kvs vs r
 unfold KV at r
 induction r generalizing kvs vs with
 | nil => intro q; exact q
 | @cons p q ps qs h t ih =>
   intro r0
   have e : KV (putK kvs p.1 p.2) (stored vs q.1 q.2) := by
    have := r0.put p.1 h.2
    rw [← h.1]
    exact this
   exact ih e
theorem Qdf : ∀ (ps kvs : List (Key × V)), (putAll kvs ps).length ≤ kvs.length + ps.length
 | [], kvs => Nat.le_refl _
 | p :: r, kvs => by
   have h1 := Qdf r (putK kvs p.1 p.2)
   have h2 := Qfw kvs p.1 p.2
   show (putAll (putK kvs p.1 p.2) r).length ≤ _
   rw [List.length_cons]
   omega
def rDictPairs (K : Q4) : List V → Hp → VK → Prop := fun xs H Q => ∃ (l : Addr) (L : List (Addr × Key × V)), xs = [.ref l] ∧ H l = some (.lst (L.map fun z => .ref z.1)) ∧ L.length ≤ 10 ^ 6 ∧ (∀ z ∈ L, H z.1 = some (.tup [kV z.2.1, z.2.2])) ∧
 ∀ d, H d = none → Q (.ref d) (upd H d (.dK (putAll [] (L.map (·.2)))))
theorem Qgl : ∀ {L : List (Addr × Key × V)} {its : List Value}, Vals (L.map fun z => V.ref z.1) its → its = L.map fun z => Value.ref z.1
 | [], _, .nil => rfl
 | z :: L, _, .cons r t => by
   rw [Qgl t, List.map_cons]
   cases r
   rfl
theorem Qfd (hc : X.calm = true) : CallR X (.type "dict") (rDictPairs X.K) := by
 intro pins s σ H xs us Q I rv h
 obtain ⟨l, L, rfl, hl, hn, hL, q⟩ := h
 obtain ⟨u, rfl, ru⟩ := rv.one
 cases ru
 obtain ⟨z, its, n, r, e⟩ := I.hok l _ hl
 have hits := Qgl r
 subst hits
 have hex : ∃ qs : List (Key × Value), KV (L.map (·.2)) qs ∧ ∀ (j : Nat) v p, (L.map fun z => Value.ref z.1)[j]? = some v → qs[j]? = some p → PySem.W.PairAt (mixKind X.prog X.w) s.heap v p.1 p.2 := by
  clear r e q hl z hn
  induction L with
  | nil => exact ⟨[], .nil, fun j v p h => by simp at h⟩
  | cons y L ih =>
    obtain ⟨qs, rel, hp⟩ := ih fun z hz => hL z (List.mem_cons_of_mem _ hz)
    obtain ⟨_, ts, rt, o, ho, hcl, n2, hdt⟩ := I.hok y.1 _ (hL y List.mem_cons_self)
    cases rt with
    | cons r1 rr =>
      obtain ⟨u2, rfl, r2⟩ := Vals.one rr
      rename_i u1
      refine ⟨(y.2.1, u2) :: qs, .cons ⟨rfl, r2⟩ rel, fun j v p e1 e2 => ?_⟩
      cases j with
      | zero =>
        cases e1
        cases e2
        exact ⟨y.1, u1, rfl, Qj6 r1, o, ho, hcl, n2, hdt⟩
      | succ j => exact hp j v p (by simpa using e1) (by simpa using e2)
 obtain ⟨qs, rel, hp⟩ := hex
 have hlen : L.length = qs.length := by
  have := rel.length
  rw [List.length_map] at this
  exact this
 refine PySem.W.Qd0 (knd := mixKind X.prog X.w) (ps := qs) (I.ok.hd hc) e rfl rfl rfl (by rw [List.length_map]; exact hlen) (by omega) hp fun h' tk dd keep => ?_
 refine ⟨.ref s.heap.objs.size, _, I.laid (a := s.heap.objs.size) (o := .dK (putAll [] (L.map (·.2)))) (t' := tk) keep (Nat.le_refl _) ?_, rfl, q _ I.fresh⟩
 have hline : 10 ^ 6 ≤ sizeLine := by decide
 have hl2 := Qdf (L.map (·.2)) []
 rw [List.length_map] at hl2
 refine Qle (by simp at hl2; omega) ?_ (rel.putAll .nil) dd
 have hb := I.big
 exact beq_eq_false_iff_ne.mpr (Nat.ne_of_gt hb)
end
theorem Qmw : bootBuiltins "dict" = some (.type "dict") := by decide+kernel
end L2
namespace PySem.W
open PySem PySem.Calls PyProof.Rows PyProof.V PySem.Spec
section
variable {prog : Program} {w : World} {A : Around} {E : Q0} {s : Shared} {r l : Addr} {items : Array Value}
end
end PySem.W
namespace L2
open PySem PySem.Spec PyProof.Rows L3
section
variable {X : Cx}
end
end L2
namespace L2
open PySem PySem.Spec PyProof.Rows L3
section
variable {X : Cx}
theorem Qj0 {cm : Bool} {k : Nat} (hr : Room cm k X.A) : OpR X (compareOp .Eq) (fun x y H Q => ∃ a b xs ys, x = .ref a ∧ y = .ref b ∧ SqL X.K H a xs ∧ SqL X.K H b ys ∧ ((xs.length ≠ ys.length ∧ Q (.bl false) H) ∨ (EqLs X.K H xs ys ∧ Q (.bl true) H))) := by
 intro pins s σ H x y v u Q I rx ry h
 obtain ⟨a, b, xs, ys, rfl, rfl, ha, hb, h⟩ := h
 rcases h with ⟨hne, q⟩ | ⟨he, q⟩
 ·cases rx
  cases ry
  obtain ⟨its, r, pl, hz⟩ := I.list ha
  obtain ⟨its2, r2, pl2, hz2⟩ := I.list hb
  have l1 := r.length
  have l2 := r2.length
  have hu : X.A.units < cLine := by have := hr.un; omega
  refine SeqAt.eq_list_lengthsAt pl.isList pl2.isList ?_ hu ⟨.bl false, H, I, rfl, q⟩
  simp only [List.size_toArray]
  rw [← l1, ← l2]
  simpa using hne
 ·exact op_eqD hr pins s σ H _ _ v u Q I rx ry ⟨a, b, xs, ys, rfl, rfl, ha, hb, he, q⟩
end
end L2
namespace L2
open PySem PySem.W PyProof.Rows
structure Ord (n : Nat) (lt : Nat → Nat → Bool) : Prop where
 tri : ∀ i j, i < n → j < n → i ≠ j → lt i j = !lt j i
 tr : ∀ i j k, i < n → j < n → k < n → lt i j = true → lt j k = true → lt i k = true
structure PermN (n : Nat) (p : Array Nat) : Prop where
 pm : p.toList.Perm (List.range n)
theorem PermN.size {n : Nat} {p : Array Nat} (h : PermN n p) : p.size = n := by
 have := h.pm.length_eq
 simpa using this
section
variable {n : Nat} {lt : Nat → Nat → Bool} {cmp : Nat → Nat → (Bool → Shared → Prop) → Shared → Prop} {s : Shared}
end
end L2
namespace L2
open PySem PySem.W PySem.Spec PyProof.Rows L3
section
variable {prog : Program} {w : World} {s : Shared} {A : Around} {E : Q0}
end
end L2
namespace L2
open PySem PySem.W PySem.Spec PyProof.Rows L3
section
variable {prog : Program} {w : World} {s : Shared} {A : Around} {E : Q0}
end
end L2
namespace L2
open PySem PySem.W PySem.Spec PyProof.Rows L3
section
variable {prog : Program} {w : World} {s : Shared} {A : Around} {E : Q0}
end
end L2
namespace L2
open PySem PySem.W PySem.Spec PyProof.Rows L3
def ltS (x y : Str) : Bool := decide (x.cps.toList < y.cps.toList)
theorem str_eq {x y : Str} (h : x.cps.toList = y.cps.toList) : x = y := by
 cases x; cases y
 simp only [Str.mk.injEq]
 exact Array.toList_inj.mp h
theorem Ql5 {x y : Str} (h : x ≠ y) : ltS x y = !ltS y x := by
 unfold ltS
 by_cases a : x.cps.toList < y.cps.toList
 ·have : ¬ y.cps.toList < x.cps.toList := fun b => List.lt_irrefl _ (List.lt_trans a b)
  simp [a, this]
 ·have : y.cps.toList < x.cps.toList := by
   rcases Classical.em (y.cps.toList < x.cps.toList) with b | b
   ·exact b
   ·exact absurd (str_eq (List.le_antisymm (List.not_lt.mp b) (List.not_lt.mp a))) h
  simp [a, this]
theorem ltS_tr {x y z : Str} (h1 : ltS x y = true) (h2 : ltS y z = true) : ltS x z = true := by
 unfold ltS at *
 exact decide_eq_true (List.lt_trans (of_decide_eq_true h1) (of_decide_eq_true h2))
theorem ltS_ne {x y : Str} (h : ltS x y = true) : x ≠ y := fun e => by
 subst e
 exact List.lt_irrefl _ (of_decide_eq_true h)
section
variable {prog : Program} {w : World} {s : Shared} {A : Around} {E : Q0}
def TwoAt (h : Heap) (a : Addr) (k : Str × Str) : Prop := ∃ o n t u, h.get? a = some o ∧ o.cls = .type "tuple" ∧ o.data = .seq #[.str k.1 t, .str k.2 u] n
inductive TwosAt (h : Heap) : List Addr → List (Str × Str) → Prop where
 | nil : TwosAt h [] []
 | cons {a : Addr} {k : Str × Str} {as : List Addr} {ks : List (Str × Str)} (x : TwoAt h a k) (r : TwosAt h as ks) : TwosAt h (a :: as) (k :: ks)
theorem TwosAt.len {h : Heap} : ∀ {as : List Addr} {ks : List (Str × Str)}, TwosAt h as ks → as.length = ks.length
 | _, _, .nil => rfl
 | _, _, .cons _ r => congrArg (· + 1) r.len
theorem TwosAt.at {h : Heap} : ∀ {as : List Addr} {ks : List (Str × Str)} (i : Nat), TwosAt h as ks → i < as.length → ∃ a, (as.map Value.ref).getD i Value.none = .ref a ∧ TwoAt h a (ks.getD i ("", ""))
 | _, _, i, .nil, hi => absurd hi (Nat.not_lt_zero _)
 | _, _, 0, .cons x _, _ => ⟨_, rfl, x⟩
 | _, _, i + 1, .cons _ r, hi => by
   obtain ⟨a, e, x⟩ := r.at i (by simpa using hi)
   exact ⟨a, by simpa [List.getD] using e, by simpa [List.getD] using x⟩
end
end L2
namespace L2
open PySem PySem.W PySem.Spec PyProof.Rows L3
section
variable {X : Cx}
end
end L2
namespace L2
open PySem PySem.Spec PyProof.Rows L3
section
variable {X : Cx}
end
end L2
namespace L2
open PySem PySem.Spec PyProof.Rows L3
end L2
namespace L2
open PySem PySem.Spec PyProof.Rows L3
section
variable {X : Cx}
end
end L2
namespace L2
open PySem PySem.Spec PyProof.Rows L3
section
variable {X : Cx}
end
end L2
namespace L2
open PySem PySem.Spec PyProof.Rows L3
def ItE (K : Q4) (a : Addr) : It :=
 ⟨fun i H => ∃ xs x, SqL K H a xs ∧ xs[i]? = some x, fun i H x H' => ∃ t y, x = .ref t ∧ H t = none ∧ H' = upd H t (.tup [.int (i : Int), y]) ∧ ∀ xs, SqL K H a xs → xs[i]? = some y, fun i H => ∃ xs, SqL K H a xs ∧ xs.length ≤ i⟩
theorem Qhg {P : Program} {w : World} {K : Q4} {elts : List Expr} {x1} {pos : Pos} (a e it : Addr) (hne : e ≠ it) : Turn P w K (.Tuple elts x1 pos) (ItE K a) [e, it] e (fun i h => ∃ old, IsEnum h e it (i : Int) old ∧ h.IsListIter it a i) where
 mem := by simp
 obj := fun i h st b hb => by
  obtain ⟨old, he, o, ho, hc, hd⟩ := st
  rcases List.mem_cons.mp hb with z | z
  ·subst z
   exact ⟨_, he, fun v z => by
    have z' : Data.fields _ = Data.cell v := z
    cases z'⟩
  ·rw [List.mem_singleton.mp z]
   exact ⟨o, ho, fun v z => by rw [hd] at z; cases z⟩
 keep := fun i h h' st k => by
  obtain ⟨old, he, hi⟩ := st
  exact ⟨old, k e (by simp) _ he, hi.at fun o q => k it (by simp) o q⟩
 item := by
  intro X hP hw hK hc i pins s σ H E I hf st hg
  subst hP hw hK
  obtain ⟨xs, x, hq, hx⟩ := hg
  obtain ⟨its, rv, p, hz⟩ := I.list hq
  obtain ⟨u, hu, ru⟩ := rv.get hx
  obtain ⟨old, he, hi⟩ := st
  obtain ⟨f0, f1, f2, f3, f4, f5⟩ := hf it (by simp)
  obtain ⟨g0, g1, g2, g3, g4, g5⟩ := hf e (by simp)
  refine wpAny_pyNext_enum_item he hi p.isList (x := u) (by simpa using hu) hne fun h1 heo hit1 ht1 hz1 hk1 => ?_
  refine ⟨_, rfl, wpAny_letOwnedTupleGo_enum heo fun h2 he2 hs2 => ?_⟩
  replace hs2 : Heap.SameBut e h1 h2 := hs2
  have hit2 : h2.IsListIter it a (i + 1) := hit1.at fun o q => (hs2.2 it (Ne.symm hne)).trans q
  obtain ⟨oi, hoi, _, _⟩ := id hi
  obtain ⟨oi2, hoi2, hic2, hid2⟩ := id hit2
  have le : e < s.heap.objs.size := Heap.lt_size he
  have li : it < s.heap.objs.size := Heap.lt_size hoi
  have gA : (s.heap.update it (fun _ => oi2)).get? it = some oi2 := Heap.get?_update_self (fun _ => oi2) hoi (Obj.isFreed_of_fields hid2)
  have oA : ∀ b, b ≠ it → (s.heap.update it (fun _ => oi2)).get? b = s.heap.get? b := fun b hb => Heap.get?_update_other _ _ (Ne.symm hb)
  have IA : Inv X pins σ H { s with heap := s.heap.update it (fun _ => oi2), toks := s.toks } := I.turned (t' := s.toks) (it := it) (fun b o hb q => (oA b hb).trans q) f0 f1 f3 f4 f5
  generalize hA : s.heap.update it (fun _ => oi2) = HA at gA oA IA
  have zA : HA.objs.size = s.heap.objs.size := by rw [← hA]; exact Heap.size_after_update ..
  obtain ⟨oe2, hoe2⟩ : ∃ o, h2.get? e = some o := ⟨_, he2⟩
  have hfe : oe2.isFreed = false := by
   have : oe2 = _ := Option.some.inj (hoe2.symm.trans he2)
   rw [this]
   exact Obj.isFreed_of_fields rfl
  have gB : (HA.update e (fun _ => oe2)).get? e = some oe2 := Heap.get?_update_self (fun _ => oe2) ((oA e hne).trans he) hfe
  have oB : ∀ b, b ≠ e → (HA.update e (fun _ => oe2)).get? b = HA.get? b := fun b hb => Heap.get?_update_other _ _ (Ne.symm hb)
  have IB := IA.turned (t' := s.toks) (it := e) (h' := HA.update e (fun _ => oe2)) (fun b o hb q => (oB b hb).trans q) g0 g1 g3 g4 g5
  have zB : (HA.update e (fun _ => oe2)).objs.size = s.heap.objs.size := by rw [← zA]; exact Heap.size_after_update ..
  generalize HA.update e (fun _ => oe2) = HB at gB oB IB zB
  have kB : ∀ b o, HB.get? b = some o → h2.get? b = some o := fun b o q => by
   by_cases be : b = e
   ·subst be
    rw [gB] at q
    cases q
    exact hoe2
   ·rw [oB b be] at q
    by_cases bi : b = it
    ·subst bi
     rw [gA] at q
     cases q
     exact hoi2
    ·rw [oA b bi] at q
     exact (hs2.2 b be).trans (hk1 b o be bi q)
  have hT : h2.get? s.heap.objs.size = some { cls := .type "tuple", data := .seq #[.int i s.toks, u] } := (hs2.2 _ (Nat.ne_of_gt le)).trans ht1
  have IC := IB.laid (a := s.heap.objs.size) (o := .tup [.int (i : Int), x]) (t' := s.toks + 1) (h' := h2) kB (Nat.le_of_eq zB) ⟨(by show 2 ≤ sizeLine; decide), [.int i s.toks, u], .cons ⟨s.toks, rfl⟩ (.cons ru .nil), ⟨_, hT, rfl, _, rfl⟩⟩
  refine ⟨.ref s.heap.objs.size, _, IC, rfl, ⟨_, x, rfl, I.hok.fresh (Nat.le_refl _), rfl, fun ys hy => by rw [I.Qdl hy hq]; exact hx⟩, ⟨_, he2, hit2⟩, fun b hb => ?_⟩
  have bl : b < s.heap.objs.size := by
   rcases List.mem_cons.mp hb with z | z
   ·rw [z]; exact le
   ·rw [List.mem_singleton.mp z]; exact li
  rw [Qar (Nat.ne_of_lt bl)]
  exact (hf b hb).1
 done := by
  intro X hP hw hK hc i pins s σ H E I hf st hg
  subst hP hw hK
  obtain ⟨xs, hq, hx⟩ := hg
  obtain ⟨its, rv, p, hz⟩ := I.list hq
  obtain ⟨old, he, hi⟩ := st
  obtain ⟨f0, f1, f2, f3, f4, f5⟩ := hf it (by simp)
  have hl := rv.length
  exact wpAny_pyNext_enum_end (I.ok.hd hc) he hi p.isList (by simp; omega) fun h' eb => ⟨rfl, I.turned (t' := s.toks) (fun b o hb e => eb b o hb e) f0 f1 f3 f4 f5⟩
 self := fun _ _ _ _ _ st h => by
  obtain ⟨old, he, hi⟩ := st
  exact wpAny_pyIter_enum he h
section
variable {X : Cx}
def iEnum (K : Q4) (ta : TA) : TI := fun σ H R => ta σ H fun vs H1 => ∃ a, vs = [.ref a] ∧ (∃ xs, SqL K H1 a xs) ∧ R (ItE K a) H1
theorem Qds {l : Expr} {elts : List Expr} {x1} {tp : Pos} {ta : TA} {p pos : Pos} (hg : Gl X "enumerate") (hm : X.mg "enumerate" = none) (ha : PA X [l] ta) (hs : starEach [l] X.env = [(false, eval l X.env)] := by rfl) :
 PI X (.Tuple elts x1 tp) (.Call (.Name "enumerate" p) [l] [] pos) (iEnum X.K ta) := by
 intro pins s σ H R I h
 refine Call_ (Qdj I hg hm boot_enumerate (PyProof.Rows.callWith_type1 (thn (ha pos pins s σ H _ I h) fun us s1 ⟨vs, H1, I1, r1, q1⟩ => ?_) hs rfl))
 obtain ⟨a, e, ⟨xs, hq⟩, q⟩ := q1
 subst e
 cases r1 with
 | cons r rr =>
   cases rr
   cases r
   obtain ⟨its, rv, p, hz⟩ := I1.list hq
   refine call_enumerate_list p.isList fun h' he hit hsz hk => ?_
   refine wpAny_pyIter_enum he ?_
   refine ⟨s1.heap.objs.size + 1, [s1.heap.objs.size + 1, s1.heap.objs.size], _, _, H1, rfl, I1.kept (t' := s1.toks) hk, Qhg a _ _ (Nat.succ_ne_self _), ⟨.none, he, hit⟩, fun b hb => ?_, q⟩
   rcases List.mem_cons.mp hb with z | z
   ·rw [z]
    exact I1.fpOk (Nat.le_succ _) (I1.hok.fresh (Nat.le_succ _))
   ·rw [List.mem_singleton.mp z]
    exact I1.fpOk (Nat.le_refl _) (I1.hok.fresh (Nat.le_refl _))
theorem Qep {K : Q4} {a : Addr} {xs : List V} {g : TG} {tb : TS} {D : Ends} {σ : St} {H : Hp} (Pv : Nat → St → Hp → Prop) (h0 : Pv 0 σ H) (hl : ∀ i σ H, i ≤ xs.length → Pv i σ H → SqL K H a xs)
 (hs : ∀ i x σ H t, xs[i]? = some x → Pv i σ H → H t = none → g (.ref t) σ (upd H t (.tup [.int (i : Int), x])) fun σ2 H2 => tb { D with nx := Pv (i + 1), ct := Pv (i + 1), bk := D.nx } σ2 H2) (hd : ∀ σ H, Pv xs.length σ H → D.nx σ H) :
 ∃ W : Nat → Nat → St → Hp → Prop, (∃ m, W 0 m σ H) ∧ ∀ i m σ H, W i m σ H →
   ((ItE K a).stop i H ∧ D.nx σ H) ∨ ((ItE K a).go i H ∧ ∃ N : St → Hp → Prop, (∀ σ' H', N σ' H' → ∃ m', m' < m ∧ W (i + 1) m' σ' H') ∧ ∀ x H', (ItE K a).yld i H x H' → g x σ H' fun σ2 H2 => tb { D with nx := N, ct := N, bk := D.nx } σ2 H2) := by
 refine ⟨fun i m σ H => m = xs.length - i ∧ i ≤ xs.length ∧ Pv i σ H, ⟨xs.length, by simp, Nat.zero_le _, h0⟩, ?_⟩
 rintro i m σ H ⟨rfl, hi, p⟩
 have q := hl i σ H hi p
 by_cases hlt : i < xs.length
 ·refine .inr ⟨⟨xs, xs[i], q, by simp [hlt]⟩, Pv (i + 1), fun σ' H' p' => ⟨xs.length - (i + 1), by omega, rfl, hlt, p'⟩, fun x H' y => ?_⟩
  obtain ⟨t, y, rfl, ht, rfl, hy⟩ := y
  exact hs i y σ H t (hy xs q) p ht
 ·have e : i = xs.length := by omega
  subst e
  exact .inl ⟨⟨xs, q, Nat.le_refl _⟩, hd σ H p⟩
theorem Qkj {k : Nat} (hr : Room true k X.A) : CallR X (.builtin "all") (fun xs H Q => ∃ (p : Addr) (bs : List Bool), xs = [.ref p] ∧ SqL X.K H p (bs.map V.bl) ∧ Q (.bl (bs.all id)) H) := by
 intro pins s σ H xs us Q I r h
 obtain ⟨p, bs, rfl, hq, q⟩ := h
 obtain ⟨u, rfl, rx⟩ := vals1 r
 cases rx
 obtain ⟨its, r', pl, hz⟩ := I.list hq
 have hb := Qet r'
 have hl := pl.isList
 have hlt : p < s.heap.objs.size := by obtain ⟨_, e, _⟩ := hl; exact Heap.lt_size e
 refine call_all_walk (wpAny_pyIter_list hl ?_)
 refine ⟨s.heap.objs.size, [s.heap.objs.size, p], [s.heap.objs.size], its.toArray.size, _, _, fun i => (bs[i]?).getD true, rfl, Walks.list (A := X.A.in1) (hr.hd rfl) _ p (Nat.ne_of_lt hlt) its.toArray,
  ⟨⟨_, Heap.get?_push_size _ rfl, rfl, rfl⟩, hl.push _⟩, fun i v s' Q' E' hP hQ => ?_, fun h' tk hk => ?_⟩
 ·obtain ⟨b, e, rfl⟩ := hb.get i v (by simpa using hP)
  simp only [e, Option.getD_some] at hQ
  exact wpAny_truthy_bool hQ
 ·have e : ((List.range its.toArray.size).all fun i => (bs[i]?).getD true) = bs.all id := by
   rw [List.size_toArray, hb.length]; exact LSm.range_all bs
  rw [e]
  exact ⟨.bl (bs.all id), H, I.kept (LSm.kept_iter hk), rfl, q⟩
end
end L2
namespace PySem.W
open PySem
section
variable {prog : Program} {w : World} {A : Around} {E : Q0} {s : Shared}
end
end PySem.W
namespace L2
open PySem PySem.W PySem.Spec PyProof.Rows L3
section
variable {X : Cx}
end
end L2
namespace L2
open PySem PySem.W PySem.Spec PyProof.Rows L3
section
variable {X : Cx} {CX : CXT} {cm : Bool} {k : Nat} {f C : Addr} {fd : FuncData} {ps : List Str} {sp : Sp} {dvs : List V} {ds : List Value} {E : XK} {x m : Str} {p pos apos : Pos} {e : Expr} {es : List Expr} {t : TA} {mc : Value}
end
theorem Qes {X : Cx} {scope : Scope} {cl : List (Str × Addr)} {C : Addr} {s2 : Shared} {H2 : Hp} {fp : List Addr} {N' : List Str} {xe : Q0} : CallR (X.inC scope cl C s2 H2 fp N' xe) (.type "list") (fun xs H Q => ∃ p ys, xs = [.ref p] ∧ (SqL X.K H p ys ∨ SqT X.K H p ys) ∧ ∀ l, H l = none → Q (.ref l) (upd H l (.lst ys))) := Qa5 (X := X.inC scope cl C s2 H2 fp N' xe)
end L2
namespace L2
open PySem PySem.W PySem.Spec PyProof.Rows L3
section
variable {X : Cx}
end
end L2
namespace L2
open PySem PySem.W PySem.Spec PyProof.Rows L3
section
variable {X : Cx} {CX : CXT} {cm : Bool} {k : Nat} {E : XK} {m : Str} {pos apos : Pos} {o : Expr} {ta : TE}
end
end L2
namespace L2
open PySem PySem.W PySem.Spec PyProof.Rows L3
section
variable {X : Cx}
end
end L2
namespace L2
open PySem PySem.W PySem.Spec PyProof.Rows L3
section
variable {X : Cx}
theorem Qke {x : V} (h : flatV x = true) : eqV x x = true := by
 cases x <;> simp_all [flatV, eqV]
def tupB (xs ys : List V) : Bool := (List.range (min xs.length ys.length)).all (fun j => match xs[j]?, ys[j]? with | some x, some y => eqV x y | _, _ => true) && xs.length == ys.length
theorem Qhh {xs : List V} (h : ∀ v ∈ xs, flatV v = true) : tupB xs xs = true := by
 unfold tupB
 rw [Bool.and_eq_true]
 refine ⟨List.all_eq_true.mpr fun j hj => ?_, by simp⟩
 have hj2 : j < xs.length := by simpa using hj
 rw [List.getElem?_eq_getElem hj2]
 exact Qke (h _ (List.getElem_mem hj2))
def eqTB (K : Q4) (H : Hp) (x y : V) (b : Bool) : Prop := ∃ a c xs ys, x = .ref a ∧ y = .ref c ∧ SqT K H a xs ∧ SqT K H c ys ∧ (∀ v ∈ xs, flatV v = true) ∧ (∀ v ∈ ys, flatV v = true) ∧ (a = c → xs = ys) ∧ b = tupB xs ys
theorem Inv.eqTB {pins : Q3} {σ : St} {H : Hp} {s : Shared} {x y : V} {v u : Value} {b : Bool} {A : Around} (I : Inv X pins σ H s) (w0 : A.units < cLine) (t : eqTB X.K H x y b) (rx : RelV x v) (ry : RelV y u) : SeqAt.EqAt A s v u b := by
 obtain ⟨a, c, xs, ys, rfl, rfl, ha, hb, fx, fy, hs, rfl⟩ := t
 cases rx
 cases ry
 by_cases hab : a = c
 ·subst hab
  rw [← hs rfl, Qhh fx]
  exact SeqAt.EqAt.same _
 obtain ⟨i1, r1, p1, z1⟩ := I.tuple ha
 obtain ⟨i2, r2, p2, z2⟩ := I.tuple hb
 have n1 := r1.length
 have n2 := r2.length
 have h := SeqAt.RcAt.tuples (A := A) (e := fun j => match xs[j]?, ys[j]? with | some x, some y => eqV x y | _, _ => true) (show s.heap.IsTuple a i1.toArray from p1) (show s.heap.IsTuple c i2.toArray from p2) w0 (fun j h1 h2 => by
  simp only [List.size_toArray] at h1 h2
  obtain ⟨x, e, rx⟩ := Qbx r1 j h1
  obtain ⟨x2, e2, rx2⟩ := Qbx r2 j h2
  simp only [List.getElem_toArray]
  rw [e, e2]
  exact Qiw rx rx2 (fx x (List.mem_of_getElem? e)) (fy x2 (List.mem_of_getElem? e2)))
 rw [show ((List.range (min i1.toArray.size i2.toArray.size)).all (fun j => match xs[j]?, ys[j]? with | some x, some y => eqV x y | _, _ => true) && i1.toArray.size == i2.toArray.size) = tupB xs ys by
  unfold tupB
  simp only [List.size_toArray]
  rw [← n1, ← n2]] at h
 exact SeqAt.EqAt.of_refs hab h
def lstB (xs ys : List V) (e : Nat → Bool) : Bool := xs.length == ys.length && (List.range xs.length).all e
def eqLB (K : Q4) (H : Hp) (x y : V) (b : Bool) : Prop := ∃ a c xs ys e, x = .ref a ∧ y = .ref c ∧ SqL K H a xs ∧ SqL K H c ys ∧ (∀ (j : Nat) x y, xs[j]? = some x → ys[j]? = some y → eqTB K H x y (e j)) ∧ (a = c → lstB xs ys e = true) ∧ b = lstB xs ys e
theorem Inv.eqLB {pins : Q3} {σ : St} {H : Hp} {s : Shared} {x y : V} {v u : Value} {b : Bool} {A : Around} (I : Inv X pins σ H s) (w0 : A.units < cLine) (w1 : A.in1.units < cLine) (t : eqLB X.K H x y b) (rx : RelV x v) (ry : RelV y u) : SeqAt.EqAt A s v u b := by
 obtain ⟨a, c, xs, ys, e, rfl, rfl, ha, hb, he, hs, rfl⟩ := t
 cases rx
 cases ry
 by_cases hab : a = c
 ·subst hab
  rw [hs rfl]
  exact SeqAt.EqAt.same _
 obtain ⟨i1, r1, p1, z1⟩ := I.list ha
 obtain ⟨i2, r2, p2, z2⟩ := I.list hb
 have n1 := r1.length
 have n2 := r2.length
 by_cases hl : xs.length = ys.length
 ·have h := SeqAt.RcAt.lists (A := A) (e := e) p1.isList p2.isList (by simp only [List.size_toArray]; omega) w0 (fun j h1 h2 => by
   simp only [List.size_toArray] at h1 h2
   obtain ⟨x, e1, rx⟩ := Qbx r1 j h1
   obtain ⟨x2, e2, rx2⟩ := Qbx r2 j h2
   simp only [List.getElem_toArray]
   exact I.eqTB w1 (he j x x2 e1 e2) rx rx2)
  rw [show (List.range i1.toArray.size).all e = lstB xs ys e by
   unfold lstB
   simp only [List.size_toArray]
   rw [← n1, hl]
   simp] at h
  exact SeqAt.EqAt.of_refs hab h
 ·rw [show lstB xs ys e = false by
   unfold lstB
   rw [show (xs.length == ys.length) = false by simpa using hl]
   rfl]
  exact SeqAt.EqAt.of_refs hab (SeqAt.RcAt.lists_lengths (A := A) p1.isList p2.isList (by
   simp only [List.size_toArray]
   rw [← n1, ← n2]
   simpa using hl) w0)
theorem Qh0 {cm : Bool} {k : Nat} (hr : Room cm k X.A) : OpR X (compareOp .Eq) (fun x y H Q => ∃ a c xs ys e, x = .ref a ∧ y = .ref c ∧ SqT X.K H a xs ∧ SqT X.K H c ys ∧ (∀ (j : Nat) x y, xs[j]? = some x → ys[j]? = some y → (flatV x = true ∧ flatV y = true ∧ e j = eqV x y) ∨ eqLB X.K H x y (e j)) ∧ Q (.bl ((List.range (min xs.length ys.length)).all e && xs.length == ys.length)) H) := by
 intro pins s σ H x y v u Q I rx ry h
 obtain ⟨a, c, xs, ys, e, rfl, rfl, ha, hb, he, q⟩ := h
 cases rx
 cases ry
 obtain ⟨i1, r1, p1, z1⟩ := I.tuple ha
 obtain ⟨i2, r2, p2, z2⟩ := I.tuple hb
 have n1 := r1.length
 have n2 := r2.length
 have w0 : X.A.units < cLine := by have := hr.un; omega
 have w1 : X.A.in1.units < cLine := by have := hr.un; show X.A.units + 1 < cLine; omega
 have w2 : X.A.in1.in1.units < cLine := by have := hr.un; show X.A.units + 1 + 1 < cLine; omega
 refine SeqAt.eq_tupleAt (e := e) (show s.heap.IsTuple a i1.toArray from p1) (show s.heap.IsTuple c i2.toArray from p2) w0 (fun j h1 h2 => ?_) ?_
 ·simp only [List.size_toArray] at h1 h2
  obtain ⟨x, e1, rx⟩ := Qbx r1 j h1
  obtain ⟨x2, e2, rx2⟩ := Qbx r2 j h2
  simp only [List.getElem_toArray]
  rcases he j x x2 e1 e2 with ⟨f1, f2, ee⟩ | w
  ·rw [ee]
   exact Qiw rx rx2 f1 f2
  ·exact I.eqLB w1 w2 w rx rx2
 ·rw [n1, n2] at q
  refine ⟨.bl ((List.range (min i1.length i2.length)).all e && i1.length == i2.length), H, I, ?_, q⟩
  simp only [List.size_toArray]
  rfl
end
end L2
namespace L2
open PySem PySem.W PySem.Spec PyProof.Rows L3
section
variable {X : Cx} {CX : CXT} {cm : Bool} {k : Nat} {E : XK} {m : Str} {pos apos : Pos} {o e : Expr} {es : List Expr} {ta : TE} {t : TA}
end
end L2
namespace L2
open PySem PySem.W PySem.Spec PyProof.Rows L3
section
variable {X : Cx}
end
end L2
namespace L2
open PySem PySem.W PySem.Spec PyProof.Rows L3
section
variable {X : Cx}
end
end L2
namespace L2
open PySem PySem.W PySem.Spec PyProof.Rows L3
section
variable {X : Cx}
end
end L2
namespace L2
open PySem PySem.W PySem.Spec PyProof.Rows L3
section
variable {X : Cx}
end
end L2
namespace L2
open PySem PySem.W PySem.Spec PyProof.Rows L3
section
variable {prog : Program} {w : World} {s : Shared} {A : Around} {E : Q0} {M : Model}
theorem Qjl {src : Source} {n : Nat} {Q : Nat → Shared → Prop} (hn : n ≠ 0) (h : ∀ i d, i < n → Q i { s with drawn := d }) : wpAny M A (choose src n) Q E s := fun _ _ _ => ⟨hn, h _ _ (Nat.mod_lt _ (Nat.pos_of_ne_zero hn))⟩
theorem Qdw {α : Type} : ∀ {l : List α} {i : Nat} (h : i < l.length), (l[i] :: l.eraseIdx i).Perm l
 | a :: r, 0, _ => .refl _
 | a :: r, i + 1, h => by
   have := Qdw (l := r) (i := i) (by simpa using h)
   exact (List.Perm.swap _ _ _).trans (this.cons a)
theorem Qdn {α : Type} : ∀ (n : Nat) (xs : List α) (s : Shared) (Q : List α → Shared → Prop), xs.length = n → (∀ ys d, ys.Perm xs → Q ys { s with drawn := d }) → wpAny M A (drawOrder n xs) Q E s
 | 0, xs, s, Q, hl, h => by
   have : xs = [] := List.eq_nil_of_length_eq_zero hl
   subst this
   exact wpAny_pure (h [] s.drawn .nil)
 | n + 1, [], s, Q, hl, h => by cases hl
 | n + 1, x :: r, s, Q, hl, h => by
   have e : drawOrder (n + 1) (x :: r) = (do let i ← choose .order (x :: r).length; match (x :: r)[i]? with | some y => return y :: (← drawOrder n ((x :: r).eraseIdx i)) | none => unsupported "internal:drawOrder") := rfl
   rw [e]
   refine wpAny_bind (Qjl (by simp) fun i d hi => ?_)
   rw [List.getElem?_eq_getElem hi]
   refine wpAny_bind (Qdn n _ _ _ (by rw [List.length_eraseIdx, if_pos hi]; omega) fun ys d2 hp => wpAny_pure (h _ d2 ?_))
   exact (hp.cons _).trans (Qdw hi)
def strOf : Value → Str
 | .str x _ => x
 | _ => ""
def ksOf (es : Array (Int × Value)) : List Str := es.toList.map fun e => strOf e.2
structure StrS (prog : Program) (w : World) (h : Heap) (a : Addr) (es : Array (Int × Value)) (ep : Nat) (t : SetTable) : Prop where
 ob : ∃ o, h.get? a = some o ∧ o.ExactSet ∧ o.data = .set es ep t
 el : ElemsOf (strKind prog w) es.toList
 ft : t.fits es.size = true
 pl : es.size = 0 ∨ t.plain = false
 ld : t.led = !w.params.followText "set-order"
 sm : es.size < scanBound
theorem Ql9 (t : SetTable) (es : Array (Int × Value)) (h : Int) (x : Value) : (layNew t es h x).2.1.led = t.led := by
 unfold layNew SetTable.put SetTable.orStandIn SetTable.standIn
 split
 ·dsimp only
  (repeat' split) <;> rfl
 ·rfl
theorem Qhs (t : SetTable) (es : Array (Int × Value)) (n : Nat) (hp : t.plain = false) : (relayAll t es n).2.1.led = t.led ∧ (relayAll t es n).2.1.plain = false := by
 unfold relayAll
 cases hr : t.relaid (es.map (·.1)) n with
 | none => exact ⟨rfl, rfl⟩
 | some q =>
   obtain ⟨t', o⟩ := q
   have ht : t'.led = t.led ∧ t'.plain = t.plain := by
    unfold SetTable.relaid SetTable.laid at hr
    cases hc : SetTable.layClean (SetTable.sizeAbove n - 1) (es.map (·.1)) with
    | none => rw [hc] at hr; cases hr
    | some ow =>
      rw [hc] at hr
      have := Option.some.inj hr
      have h1 := congrArg Prod.fst this
      dsimp only at h1
      rw [← h1]
      exact ⟨rfl, rfl⟩
   dsimp only
   split
   ·exact ⟨ht.1, ht.2.trans hp⟩
   ·exact ⟨rfl, rfl⟩
theorem Qk6 {es : Array (Int × Value)} (hel : ElemsOf (strKind prog w) es.toList) (k : Str) : k ∈ ksOf es ↔ ∃ e ∈ es.toList, (strKind prog w).is k e.2 = true := by
 unfold ksOf
 rw [List.mem_map]
 constructor
 ·rintro ⟨e, he, rfl⟩
  refine ⟨e, he, ?_⟩
  obtain ⟨⟨k, hk, _⟩, _⟩ := hel e he
  obtain ⟨t, ht⟩ := Value.isStrOf_shape hk
  rw [ht]
  exact strKind_is _ _ _ _
 ·rintro ⟨e, he, hk⟩
  obtain ⟨t, ht⟩ := Value.isStrOf_shape hk
  exact ⟨e, he, by rw [ht]; rfl⟩
theorem StrS.same {h h' : Heap} {a : Addr} {es : Array (Int × Value)} {ep : Nat} {t : SetTable} (x : StrS prog w h a es ep t) (k : ∀ o, h.get? a = some o → h'.get? a = some o) : StrS prog w h' a es ep t := by
 obtain ⟨⟨o, ho, r⟩, q1, q2, q3, q4, q5⟩ := x
 exact ⟨⟨o, k o ho, r⟩, q1, q2, q3, q4, q5⟩
theorem Qew {h : Heap} {a : Addr} {es es' : Array (Int × Value)} {ep : Nat} {t t' : SetTable} {o : Obj} (ho : h.get? a = some o) (hx : o.ExactSet) (hd : o.data = .set es ep t) (h1 : ElemsOf (strKind prog w) es'.toList) (h2 : t'.fits es'.size = true) (h3 : t'.plain = false) (h4 : t'.led = !w.params.followText "set-order") (h5 : es'.size < scanBound) :
 StrS prog w (h.update a (Obj.putSet es' t')) a es' (ep + 1) t' := by
 refine ⟨⟨_, (SetOf_store (knd := strKind prog w) (S' := fun k => decide (∃ e ∈ es'.toList, (strKind prog w).is k e.2 = true)) ho hx hd h1 (fun k => by simp) h5 h2).1, hx, rfl⟩, h1, h2, .inr h3, h4, h5⟩
theorem Qlq {a : Addr} {es : Array (Int × Value)} {ep : Nat} {t : SetTable} {k : Str} {tk : Tok} {Q : Bool → Shared → Prop} (S : StrS prog w s.heap a es ep t) (room : es.size + 1 < scanBound)
 (h : ∀ h' es' ep' t' b, Heap.SameBut a s.heap h' → StrS prog w h' a es' ep' t' → ((k ∈ ksOf es ∧ es' = es) ∨ (k ∉ ksOf es ∧ es'.size = es.size + 1 ∧ (ksOf es').Perm (ksOf es ++ [k]))) → Q b { s with heap := h' }) :
 wpAny (model prog w) A (setAddHashed a (.str k tk) ((strKind prog w).hash k)) Q E s := by
 obtain ⟨⟨o, ho, hx, hd⟩, hel, hft, hpl, hld, hsm⟩ := id S
 have hk : (strKind prog w).is k (.str k tk) = true := strKind_is _ _ _ _
 have hsc : (Value.str k tk).scannable = true := rfl
 unfold setAddHashed setAddHashedIn; refine wpAny_holding (wpAny_bind (wpAny_setState_of ho hd hft ?_))
 dsimp only; rw [byScan_of hsc hsm hel]; simp only [↓reduceIte]
 unfold setAddByScan; refine wpAny_bind (wpAny_bind (wpAny_rule (wpAny_bind (wpAny_setScan_of hk ho hd hft hel ?_))))
 cases hr : List.findIdx? (fun e => (strKind prog w).is k e.2) es.toList with
 | some j =>
   obtain ⟨hj, hpj, _⟩ := List.findIdx?_eq_some_iff_getElem.mp hr
   have hin : k ∈ ksOf es := (Qk6 hel k).mpr ⟨_, List.getElem_mem hj, hpj⟩
   have es_ : s = { s with heap := s.heap } := rfl
   exact wpAny_pure (wpAny_pure (h s.heap es ep t false (Heap.SameBut.refl a s.heap) S (.inl ⟨hin, rfl⟩)))
 | none =>
   have hnot : k ∉ ksOf es := fun m => by
    obtain ⟨e, he, hp⟩ := (Qk6 hel k).mp m
    have := List.findIdx?_eq_none_iff.mp hr e he
    rw [hp] at this
    cases this
   have P1 := layNew_perm t es ((strKind prog w).hash k) (.str k tk)
   have F1 := layNew_fits t es ((strKind prog w).hash k) (.str k tk)
   have L1 := Ql9 t es ((strKind prog w).hash k) (.str k tk)
   dsimp only
   generalize layNew t es ((strKind prog w).hash k) (.str k tk) = La at P1 F1 L1 ⊢
   obtain ⟨e1, t1, wd, gv⟩ := La
   dsimp only at P1 F1 L1 ⊢
   rw [Array.toList_push] at P1
   have el1 : ElemsOf (strKind prog w) e1.toList := (hel.push hk hsc).perm P1
   have sz1 : e1.size = es.size + 1 := by
    have := P1.length_eq
    rw [List.length_append, Array.length_toList, Array.length_toList] at this
    exact this
   have kp1 : (ksOf e1).Perm (ksOf es ++ [k]) := by
    have := P1.map (fun e => strOf e.2)
    rw [List.map_append] at this
    exact this
   have gw : ∀ (b : Bool) {s1 : Shared} {Q1 : Unit → Shared → Prop}, Q1 () s1 → wpAny (model prog w) A (match b with | true => rule "set.scan.the-table-gave-way" | false => pure ()) Q1 E s1 := fun b _ _ hq => by
    cases b
    ·exact wpAny_pure hq
    ·exact wpAny_rule hq
   refine wpAny_bind (gw gv ?_)
   obtain ⟨t2, et2, f2, l2, p2⟩ : ∃ t2 : SetTable, t2 = { t1 with plain := false } ∧ t2.fits e1.size = true ∧ t2.led = t.led ∧ t2.plain = false := ⟨_, rfl, SetTable.fits_plain_off F1, L1, rfl⟩
   have tail : ∀ {R : Option Bool → Shared → Prop}, (∀ h' es' ep' t', Heap.SameBut a s.heap h' → StrS prog w h' a es' ep' t' → es'.size = es.size + 1 → (ksOf es').Perm (ksOf es ++ [k]) → R (some true) { s with heap := h' }) →
    wpAny (model prog w) A (do
     storeSet a e1 t2
     if (!wd && t2.tooFull) = true then do
         (match (relayAll t2 e1 (SetTable.grown e1.size)).2.2 with | true => rule "set.scan.the-table-gave-way" | false => pure ())
         storeSet a (relayAll t2 e1 (SetTable.grown e1.size)).1 (relayAll t2 e1 (SetTable.grown e1.size)).2.1
         pure (some true)
      else pure (some true)) R E s := fun {R} hR => by
    have b1 : e1.size < scanBound := by omega
    refine wpAny_bind (wpAny_storeSet_of ho hd ?_ (fits_of_scanBound b1))
    have S1 := Qew (prog := prog) (w := w) ho hx hd el1 f2 p2 (l2.trans hld) b1
    have sb1 := Heap.SameBut.update s.heap a (Obj.putSet e1 t2)
    split
    ·have P2 := relayAll_perm t2 e1 (SetTable.grown e1.size)
     have F2 := relayAll_fits t2 e1 (SetTable.grown e1.size)
     have L2_ := Qhs t2 e1 (SetTable.grown e1.size) p2
     generalize relayAll t2 e1 (SetTable.grown e1.size) = Rl at P2 F2 L2_ ⊢
     obtain ⟨e2, t3, g2⟩ := Rl
     dsimp only at P2 F2 L2_ ⊢
     have sz2 : e2.size = e1.size := by
      have := P2.length_eq
      rw [Array.length_toList, Array.length_toList] at this
      exact this
     refine wpAny_bind (gw g2 ?_)
     obtain ⟨o1, ho1, hx1, hd1⟩ := S1.ob
     refine wpAny_bind (wpAny_storeSet_of ho1 hd1 ?_ (fits_of_scanBound (by omega)))
     have S2 := Qew (prog := prog) (w := w) ho1 hx1 hd1 (el1.perm P2) F2 L2_.2 (L2_.1.trans (l2.trans hld)) (by omega)
     exact wpAny_pure (hR _ e2 _ t3 (sb1.trans (Heap.SameBut.update _ a _)) S2 (by omega) ((P2.map _).trans kp1))
    ·exact wpAny_pure (hR _ e1 _ t2 sb1 S1 sz1 kp1)
   have fin : ∀ h' es' ep' t', Heap.SameBut a s.heap h' → StrS prog w h' a es' ep' t' → es'.size = es.size + 1 → (ksOf es').Perm (ksOf es ++ [k]) → wpAny (model prog w) A (pure true) Q E { s with heap := h' } := fun h' es' ep' t' c1 c2 c3 c4 => wpAny_pure (h h' es' ep' t' true c1 c2 (.inr ⟨hnot, c3, c4⟩))
   split
   ·rename_i hp
    rw [hashByValue_scannable 8 hsc]
    refine wpAny_bind (wpAny_pure ?_)
    have := tail (R := fun r s' => wpAny (model prog w) A (match r with | some added => pure added | none => setAddHashedIn a (.str k tk) ((strKind prog w).hash k) 99999) Q E s') (fun h' es' ep' t' c1 c2 c3 c4 => fin h' es' ep' t' c1 c2 c3 c4)
    rw [et2] at this
    exact this
   ·rename_i hp
    refine wpAny_bind (wpAny_pure ?_)
    have e12 : t1 = t2 := by
     rw [et2]
     cases t1
     simp at hp
     simp [hp]
    have := tail (R := fun r s' => wpAny (model prog w) A (match r with | some added => pure added | none => setAddHashedIn a (.str k tk) ((strKind prog w).hash k) 99999) Q E s') (fun h' es' ep' t' c1 c2 c3 c4 => fin h' es' ep' t' c1 c2 c3 c4)
    rw [← e12] at this
    exact this
end
end L2
namespace L2
open PySem PySem.W PySem.Spec PyProof.Rows L3
section
variable {prog : Program} {w : World} {A : Around} {R : Result → Shared → Prop} {I : Addr} {fp wr : List Addr} {G : Array GenState → Array GenState → Prop} {n : Nat} {P : Nat → Value → Prop} {St : Nat → Shared → Prop}
theorem Qjp (W : WalksS prog w A.in1 I fp wr G n P St) (S : Addr) (hSf : S ∉ fp) (ss : Nat → Str) (hval : ∀ i v, P i v → ∃ t, v = .str (ss i) t) (hb : n + 1 < scanBound) :
 ∀ (k i : Nat) (s : Shared) (es : Array (Int × Value)) (ep : Nat) (t : SetTable), n - i = k → i ≤ n → St i s → StrS prog w s.heap S es ep t → es.size ≤ i → (ksOf es).Nodup → (∀ x, x ∈ ksOf es ↔ ∃ j, j < i ∧ ss j = x) →
   (∀ s' es' ep' t', Moved (S :: wr) G s s' → StrS prog w s'.heap S es' ep' t' → es'.size ≤ n → (ksOf es').Nodup → (∀ x, x ∈ ksOf es' ↔ ∃ j, j < n ∧ ss j = x) → R (.ok (.ret .none)) s') →
   codeAny (model prog w) A (.builtin "set.update.loop" ⟨[.ref S, .ref I], []⟩) R s := by
 have nSw : S ∉ wr := fun z => hSf (W.sub _ z)
 have inc : ∀ b ∈ wr, b ∈ S :: wr := fun b z => .tail _ z
 intro k; induction k with
 | zero =>
   intro i s es ep t hk hi hst X hsz nd mm fin; have ei : i = n := by omega
   subst ei; refine codeAny_builtin F.entry_set_update_loop ?_; rw [Around.under_plainId F.plain_set_update_loop _]; show wpAny _ A.in1 (pyNext (.ref I) >>= _) _ _ s
   refine wpAny_bind (W.done s _ _ hst fun s' hm => ?_); show wpAny _ A.in1 (ret Value.none) _ _ s'
   exact wpAny_pure (fin s' es ep t (hm.mono inc) (X.same fun o e => hm.heap S _ nSw e) hsz nd mm)
 | succ k ih =>
   intro i s es ep t hk hi hst X hsz nd mm fin; have lt : i < n := by omega
   refine codeAny_builtin F.entry_set_update_loop ?_; rw [Around.under_plainId F.plain_set_update_loop _]; show wpAny _ A.in1 (pyNext (.ref I) >>= _) _ _ s
   refine wpAny_bind (W.item i s _ _ lt hst fun v s1 hP hst1 hm => ?_)
   obtain ⟨tk, rfl⟩ := hval i v hP
   have X1 := X.same (h' := s1.heap) fun o e => hm.heap S _ nSw e
   show wpAny _ A.in1 (holding [Value.str (ss i) tk] (setAdd S (.str (ss i) tk)) >>= _) _ _ s1
   refine wpAny_bind (wpAny_holding ?_); unfold setAdd
   refine wpAny_holding (wpAny_bind ((strKind prog w).pyHash (k := ss i) (strKind_is _ _ _ _) ?_))
   refine Qlq (s := { s1 with toks := s1.toks + 1 }) X1 (by omega) fun h2 es2 ep2 t2 b sb X2 hc => ?_
   have nd2 : (ksOf es2).Nodup := by
    rcases hc with ⟨_, rfl⟩ | ⟨hn, _, hp⟩
    ·exact nd
    ·refine hp.nodup_iff.mpr (List.nodup_append.mpr ⟨nd, List.nodup_cons.mpr ⟨List.not_mem_nil, List.nodup_nil⟩, fun x hx y hy e => ?_⟩)
     rw [List.mem_singleton.mp hy] at e
     exact hn (by rw [← e]; exact hx)
   have mm2 : ∀ x, x ∈ ksOf es2 ↔ ∃ j, j < i + 1 ∧ ss j = x := fun x => by
    have h0 : (∃ j, j < i + 1 ∧ ss j = x) ↔ x ∈ ksOf es ∨ x = ss i := by
     rw [mm x]
     constructor
     ·rintro ⟨j, hj, e⟩
      by_cases z : j = i
      ·subst z
       exact .inr e.symm
      ·exact .inl ⟨j, by omega, e⟩
     ·rintro (⟨j, hj, e⟩ | e)
      ·exact ⟨j, by omega, e⟩
      ·exact ⟨i, by omega, e.symm⟩
    rw [h0]
    rcases hc with ⟨hn, rfl⟩ | ⟨hn, _, hp⟩
    ·exact ⟨.inl, fun h => h.elim id fun e => by rw [e]; exact hn⟩
    ·rw [hp.mem_iff, List.mem_append, List.mem_singleton]
   have sz2 : es2.size ≤ i + 1 := by
    rcases hc with ⟨_, rfl⟩ | ⟨_, hz, _⟩ <;> omega
   refine wpAny_pure ⟨plainId_quiet F.plain_set_update_loop _, ih (i + 1) { s1 with heap := h2, toks := s1.toks + 1 } es2 ep2 t2 (by omega) lt (W.frame _ s1 _ _ hst1 (Nat.le_succ _) fun c hc o e => ?_) X2 sz2 nd2 mm2 fun s3 es3 ep3 t3 hm3 X3 sz3 nd3 mm3 => ?_⟩
   ·rw [sb.2 c (fun z : c = S => hSf (by rw [← z]; exact hc))]
    exact e
   ·refine fin s3 es3 ep3 t3 (Moved.trans W.gtrans ((hm.mono inc).then_heap (Nat.le_succ _) fun c o hc e => ?_) hm3) X3 sz3 nd3 mm3
    rw [sb.2 c (fun z : c = S => hc (by rw [z]; exact .head _))]
    exact e
end
section
variable {prog : Program} {w : World} {A : Around} {E : Q0} {s : Shared}
theorem Qlt (a : Value) {Q1 : Q0} (h : Q1 (.ref s.heap.objs.size) { s with heap := s.heap.push { cls := .type "set", dict := none, data := .set #[] 0 (.fresh 0 0 (!w.params.followText "set-order")) } }) :
 codeAny (model prog w) A (.call (.builtin "set.__new__") ⟨[.type "set", a], []⟩) (wants Q1 E) s := by
 refine codeAny_of_tree ?_; show wpAny _ A.in1 (do checkBuiltinCall "set.__new__" ⟨[.type "set", a], []⟩; again (.builtin "set.__new__" ⟨[.type "set", a], []⟩)) _ _ s
 refine wpAny_bind (wpAny_of_eq (F.newCall_set_1 a) (wpAny_pure ⟨plainId_quiet F.plain_set_new _, codeAny_builtin F.entry_set_new ?_⟩)); rw [Around.under_plainId F.plain_set_new _]
 unfold Builtin.«set.__new__» Builtin.Frozenset.newClass; have hsub := sub_set_self
 obtain ⟨hp, g, d, tk, os⟩ := s
 dsimp only; wp_walk
 refine wpAny_askSetting (wpAny_pure ?_); dsimp only; simp only [newObj]
 exact wpAny_bind (wpAny_alloc (wpAny_pure (wpAny_pure h)))
set_option maxHeartbeats 3200000 in
theorem Qjs {l : Addr} {items : Array Value} {ss : Nat → Str} {Q : Q0} (hh : A.handled = none) (hl : s.heap.IsList l items) (hi : ∀ (i : Nat) v, items[i]? = some v → ∃ t, v = .str (ss i) t) (hb : items.size + 1 < scanBound)
 (h : ∀ (h' : Heap) (tk : Nat) es ep t, StrS prog w h' s.heap.objs.size es ep t → es.size ≤ items.size → (ksOf es).Nodup → (∀ x, x ∈ ksOf es ↔ ∃ j, j < items.size ∧ ss j = x) → (∀ b o, b < s.heap.objs.size → s.heap.get? b = some o → h'.get? b = some o) → Q (.ref s.heap.objs.size) { s with heap := h', toks := tk }) :
 wpAny (model prog w) A (call (.type "set") [.ref l]) Q E s := by
 obtain ⟨c, tl, hmro⟩ := F.called_set.mro; have hmade := F.called_set.made; have hsub := F.called_set.sub
 refine wpAny_call (codeAny_of_tree ?_); show wpAny _ _ (callAny (.type "set") _) _ _ _
 refine wpAny_pure ⟨Code.quiet_builtin _ (by decide+kernel), codeAny_builtin F.entry_type_call ?_⟩; rw [Around.under_plain (weight_type_call_type "set" [.ref l] []) rfl]
 have q1 := F.called_set.notType; have q2 := F.called_set.canCreate; have q3 := F.typeCall_set_1 (.ref l); repeat (any_goals (first | assumption | wp_step))
 refine codeAny_mono (Qlt (.ref l) (E := E) (Q1 := fun v s1 => v = .ref s.heap.objs.size ∧ s1 = { s with heap := s.heap.push { cls := .type "set", dict := none, data := .set #[] 0 (.fresh 0 0 (!w.params.followText "set-order")) } }) ⟨rfl, rfl⟩) fun r s1 hr => ?_
 cases r with
 | error e => exact hr
 | ok fl =>
   cases fl with
   | ret ob =>
     obtain ⟨rfl, rfl⟩ := hr
     have gS : (s.heap.push { cls := .type "set", dict := none, data := .set #[] 0 (.fresh 0 0 (!w.params.followText "set-order")) }).get? s.heap.objs.size = some { cls := .type "set", dict := none, data := .set #[] 0 (.fresh 0 0 (!w.params.followText "set-order")) } := Heap.get?_push_size _ rfl
     have tS : Shared.TypeIs { s with heap := s.heap.push { cls := .type "set", dict := none, data := .set #[] 0 (.fresh 0 0 (!w.params.followText "set-order")) } } (.ref s.heap.objs.size) "set" := ⟨_, gS, rfl⟩
     have q4 := F.called_set.init.lookup; have q5 := F.called_set.init.bind (.ref s.heap.objs.size); repeat (any_goals (first | assumption | wp_step))
     refine codeAny_mono (codeAny_call_builtin (R := wants (fun r s2 => r = .none ∧ ∃ h' tk es ep t, s2 = { s with heap := h', toks := tk } ∧ StrS prog w h' s.heap.objs.size es ep t ∧ es.size ≤ items.size ∧ (ksOf es).Nodup ∧ (∀ x, x ∈ ksOf es ↔ ∃ j, j < items.size ∧ ss j = x) ∧ (∀ b o, b < s.heap.objs.size → s.heap.get? b = some o → h'.get? b = some o)) E) F.called_set.init.plain F.entry_set_init (check_set_init_1 tS ?_)) fun r2 s2 hr2 => ?_
     ·obtain ⟨ol, hol, hcl, nl, hdl⟩ := hl
      obtain ⟨ocls, odict, odata, oslots⟩ := ol
      simp only at hcl hdl
      subst hcl hdl
      have hol1 : (s.heap.push { cls := .type "set", dict := none, data := .set #[] 0 (.fresh 0 0 (!w.params.followText "set-order")) }).get? l = some { cls := .type "list", dict := odict, data := .seq items nl, slots := oslots } := Heap.get?_push_of_some _ hol
      have q6 := F.sub_list_set; have q7 := F.sub_list_frozenset
      have q8 : (Value.type "list" == Value.type "dict") = false := by decide
      have hl1 : (s.heap.push { cls := .type "set", dict := none, data := .set #[] 0 (.fresh 0 0 (!w.params.followText "set-order")) }).IsList l items := ⟨_, hol1, rfl, nl, rfl⟩
      unfold Builtin.«set.__init__» noKeywords Builtin.Frozenset.updateFrom; generalize hPI : pyIter = PI; wp_walk; subst hPI
      refine wpAny_pyIter_list hl1 ?_; refine wpAny_bind (wpAny_runValue ?_)
      have lS : l < s.heap.objs.size := Heap.lt_size hol
      have h3 : A.in1.in1.in1.handled = none := by simp [hh]
      have nI : l ≠ (s.heap.push { cls := .type "set", dict := none, data := .set #[] 0 (.fresh 0 0 (!w.params.followText "set-order")) }).objs.size := by rw [Heap.size_push]; exact Nat.ne_of_lt (Nat.lt_succ_of_lt lS)
      have nS : s.heap.objs.size ∉ [(s.heap.push { cls := .type "set", dict := none, data := .set #[] 0 (.fresh 0 0 (!w.params.followText "set-order")) }).objs.size, l] := by
       rw [Heap.size_push]; simp only [List.mem_cons, List.not_mem_nil, or_false, not_or]
       exact ⟨Nat.ne_of_lt (Nat.lt_succ_self _), Nat.ne_of_gt lS⟩
      have X0 : StrS prog w ((s.heap.push { cls := .type "set", dict := none, data := .set #[] 0 (.fresh 0 0 (!w.params.followText "set-order")) }).push { cls := .type "list_iterator", data := .fields #[.ref l, .int 0 0] }) s.heap.objs.size #[] 0 (.fresh 0 0 (!w.params.followText "set-order")) :=
       ⟨⟨_, Heap.get?_push_of_some _ gS, ⟨rfl, rfl, rfl⟩, rfl⟩, (fun e he => by simp at he), rfl, .inl rfl, rfl, by unfold scanBound; decide⟩
      refine Qjp ((Walks.list h3 _ l nI items).toS) s.heap.objs.size nS ss hi hb (items.size - 0) 0 _ #[] 0 _ (by omega) (Nat.zero_le _) ⟨⟨_, Heap.get?_push_size _ rfl, rfl, rfl⟩, (hl1.push _)⟩ X0 (Nat.le_refl _) List.nodup_nil (fun x => ⟨fun z => (by cases z), fun ⟨j, hj, _⟩ => absurd hj (Nat.not_lt_zero _)⟩) fun s' es ep t hm X sz nd mm => ?_
      obtain ⟨h', g', d', tk', os'⟩ := s'
      have z1 : g' = s.gens := hm.gens; have z2 : d' = s.drawn := hm.drawn; have z3 : os' = s.os := hm.os; subst z1 z2 z3
      show wpAny _ _ _ _ _ _; refine wpAny_pure ?_; show wpAny _ _ (ret Value.none) _ _ _
      refine wpAny_pure ⟨rfl, h', tk', es, ep, t, rfl, X, sz, nd, mm, fun b o hb e => hm.heap b o ?_ (Heap.get?_push_of_some _ (Heap.get?_push_of_some _ e))⟩
      simp only [List.mem_cons, List.not_mem_nil, or_false, not_or, Heap.size_push]
      exact ⟨Nat.ne_of_lt hb, Nat.ne_of_lt (Nat.lt_succ_of_lt hb)⟩
     ·cases r2 with
      | error e => exact hr2
      | ok f2 =>
        cases f2 with
        | ret r =>
          obtain ⟨rfl, h', tk, es, ep, t, rfl, X, sz, nd, mm, kk⟩ := hr2; repeat (any_goals (first | assumption | wp_step))
          exact h _ _ es ep t X sz nd mm kk
        | _ => exact hr2.elim
   | _ => exact hr.elim
end
end L2
namespace L2
open PySem PySem.W PySem.Spec PyProof.Rows L3
section
variable {prog : Program} {w : World} {A : Around} {E : Q0} {s : Shared}
theorem Qmo : entryFor table "set.__iter__" = some Builtin.«frozenset.__iter__» := entryFor_alias (id' := "frozenset.__iter__") (by kernel_rfl) rfl (by decide+kernel) (by kernel_rfl)
theorem ow_si : Manifest.owners.lookup (String.ofList ['r', 'o', 't', 'a', 'r', 'e', 't', 'i', '_', 't', 'e', 's'].reverse) = some Manifest.sig_set_iterator := by kernel_rfl
theorem Qfo : Slot "set_iterator" "__next__" "set_iterator.__next__" := .of (owner := "set_iterator") (n := "__next__") (by rw [typeLookup_type, builtinLookup_eq_fast]; kernel_rfl) (by decide+kernel) (by decide+kernel) (by decide+kernel) (by first | exact .inl (by decide+kernel) | exact .inr (by decide+kernel)) (by rw [isSubtype_type]; kernel_rfl)
theorem en_si : entryFor table "set_iterator.__next__" = some Builtin.«set_iterator.__next__» := entryFor_of_tree (by kernel_rfl)
theorem ar_si (a : Value) : argsOk "set_iterator.__next__" ⟨[a], []⟩ := by unfold argsOk; rw [signature?_of (id := "set_iterator.__next__") (n := ['_', '_', 't', 'x', 'e', 'n', '_', '_']) (o := ['r', 'o', 't', 'a', 'r', 'e', 't', 'i', '_', 't', 'e', 's']) (by kernel_rfl) ow_si]; kernel_rfl
theorem Qkq : Slot "set_iterator" "__iter__" "set_iterator.__iter__" := .of (owner := "set_iterator") (n := "__iter__") (by rw [typeLookup_type, builtinLookup_eq_fast]; kernel_rfl) (by decide+kernel) (by decide+kernel) (by decide+kernel) (by first | exact .inl (by decide+kernel) | exact .inr (by decide+kernel)) (by rw [isSubtype_type]; kernel_rfl)
theorem en_si2 : entryFor table "set_iterator.__iter__" = some Builtin.«dict_keyiterator.__iter__» := entryFor_alias (id' := "dict_keyiterator.__iter__") (by kernel_rfl) rfl (by decide+kernel) (by kernel_rfl)
theorem ar_si2 (a : Value) : argsOk "set_iterator.__iter__" ⟨[a], []⟩ := by unfold argsOk; rw [signature?_of (id := "set_iterator.__iter__") (n := ['_', '_', 'r', 'e', 't', 'i', '_', '_']) (o := ['r', 'o', 't', 'a', 'r', 'e', 't', 'i', '_', 't', 'e', 's']) (by kernel_rfl) ow_si]; kernel_rfl
def siO (first sv : Value) (i n ep : Nat) : Obj := { cls := .type "set_iterator", data := .fields #[first, .int i 0, sv, .int n 0, .int ep 0] }
theorem Qcy {I : Addr} {f v : Value} {i n ep : Nat} (h : s.heap.get? I = some (siO f v i n ep)) : s.TypeIs (.ref I) "set_iterator" := ⟨_, h, rfl⟩
theorem Qfp {I : Addr} {f v : Value} {i n ep : Nat} {Q : Q0} (h : s.heap.get? I = some (siO f v i n ep)) (q : Q (.ref I) s) : wpAny (model prog w) A (pyIter (.ref I)) Q E s := by
 refine wpAny_pyIter_slot (Qcy h) Qkq (wpAny_call_entry Qkq (Qcy h) en_si2 ?_ (ar_si2 _))
 show wpAny _ _ (ret (.ref I)) _ _ s
 exact wpAny_pure ⟨_, rfl, "set_iterator", _, Qcy h, Qfo.lookup, q⟩
theorem StrS.typeIs {a : Addr} {es : Array (Int × Value)} {ep : Nat} {t : SetTable} (X : StrS prog w s.heap a es ep t) : s.TypeIs (.ref a) "set" := by
 obtain ⟨o, ho, hx, hd⟩ := X.ob
 exact ⟨o, ho, hx.1⟩
theorem Qhx {α : Type} (f : Nat → Nat) : ∀ (n k : Nat) (l : List α) (out : Array α), l.length = n → ∃ r, (pickOrder.go f n k l out).toList = out.toList ++ r ∧ r.Perm l
 | 0, k, l, out, h => by
   have : l = [] := List.eq_nil_of_length_eq_zero h
   subst this
   exact ⟨[], by simp [pickOrder.go], .nil⟩
 | n + 1, k, l, out, h => by
   have hp : f k % l.length < l.length := Nat.mod_lt _ (by omega)
   obtain ⟨r, h1, h2⟩ := Qhx f n (k + 1) (l.eraseIdx (f k % l.length)) (out.push l[f k % l.length]) (by rw [List.length_eraseIdx, if_pos hp]; omega)
   refine ⟨l[f k % l.length] :: r, ?_, (h2.cons _).trans (Qdw hp)⟩
   rw [pickOrder.go, List.getElem?_eq_getElem hp]
   dsimp only
   rw [h1, Array.toList_push, List.append_assoc]
   rfl
theorem Qhw {α : Type} (f : Nat → Nat) (xs : Array α) : (pickOrder f xs).toList.Perm xs.toList := by
 obtain ⟨r, h1, h2⟩ := Qhx f xs.size 0 xs.toList #[] (by simp)
 unfold pickOrder
 rw [h1]
 simpa using h2
theorem Qgd {Q : Option Value → Shared → Prop} (hh : A.handled = none) (q : ∀ h', (∀ b o, s.heap.get? b = some o → h'.get? b = some o) → Q none { s with heap := h' }) :
 wpAny (model prog w) A.in1 (do let e ← newExc (Value.type "StopIteration") []; raiseNew e) (fun fin s' => ∃ v, fin = Fin.done (Flow.ret v) ∧ wpAny (model prog w) A (pure (some v)) Q E s') (fun e s' => wpAny (model prog w) A (do let b ← isInstance e (Value.type "StopIteration"); if b = true then pure none else throw e) Q E s') s := by
 refine wpAny_bind ?_
 simp only [newExc, newTuple]
 refine wpAny_bind (wpAny_newObj_type ?_ (by size_fits)); refine wpAny_bind (m := firstArgMember _ _) (wpAny_of_eq (a := Value.none) (by first | rfl | (simp only [firstArgMember]; rfl)) ?_)
 refine wpAny_newObj_type ?_ (by size_fits); simp only [raiseNew]
 refine wpAny_bind (wpAny_handled ?_); rw [show A.in1.handled = none from hh]; refine wpAny_bind (wpAny_pure (wpAny_throw ?_))
 refine wpAny_bind (wpAny_isInstance (T := "StopIteration") (b := true) ⟨_, Heap.get?_push_size _ rfl, rfl⟩ isSubtype_stop (wpAny_pure (q _ fun b o e => ?_)))
 exact Heap.get?_push_of_some _ (Heap.get?_push_of_some _ e)
theorem Qho {I : Addr} {f v x : Value} {i n ep : Nat} {h : Heap} (e : h.get? I = some (siO f v i n ep)) (k : Nat) (hk : k < 5) : (h.update I (Obj.mapFields (·.setIfInBounds k x))).get? I = some { cls := .type "set_iterator", data := .fields ((#[f, .int i 0, v, .int n 0, .int ep 0] : Array Value).setIfInBounds k x) } := by
 have := Heap.get?_update_self (Obj.mapFields (·.setIfInBounds k x)) e (by rfl)
 exact this
theorem Qej {I S : Addr} {es : Array (Int × Value)} {ep i slot : Nat} {t : SetTable} {Q : Option Value → Shared → Prop} (hh : A.handled = none) (X : StrS prog w s.heap S es ep t) (h : s.heap.get? I = some (siO (.int slot 0) (.ref S) i es.size ep)) (r : Option (Value × Nat))
 (nx : ∀ (R : Option (Value × Nat) → Shared → Prop) (E1 : Q0), R r s → wpAny (model prog w) A.in1 (setNext S slot i ep) R E1 s)
 (q1 : ∀ x nt, r = some (x, nt) → ∀ h', h'.get? I = some (siO (.int nt 0) (.ref S) (i + 1) es.size ep) → (∀ b o, b ≠ I → s.heap.get? b = some o → h'.get? b = some o) → Q (some x) { s with heap := h' })
 (q2 : r = none → ∀ h', (∀ b o, b ≠ I → s.heap.get? b = some o → h'.get? b = some o) → Q none { s with heap := h' }) : wpAny (model prog w) A (pyNext (.ref I)) Q E s := by
 obtain ⟨o, ho, hx, hd⟩ := X.ob
 unfold pyNext
 refine wpAny_bind (wpAny_attempt (wpAny_callSpecial?_slot (name := Str.ofString "__next__") (Qcy h) Qfo (wpAny_call_entry Qfo (Qcy h) en_si ?_ (ar_si _))))
 unfold Builtin.«set_iterator.__next__»; refine wpAny_bind (wpAny_pure (wpAny_bind (wpAny_fieldsOf h rfl ?_)))
 dsimp only; refine wpAny_bind (wpAny_setEntries_of ho hd X.ft ?_)
 rw [if_neg (by simp)]; refine wpAny_bind ?_
 simp only [Int.toNat_natCast]
 refine nx _ _ ?_
 cases r with
 | none =>
   dsimp only
   refine wpAny_bind (wpAny_setField h rfl (by simp) ?_)
   refine Qgd hh fun h' k => q2 rfl h' fun b o hb e => k b o ?_
   exact ((Heap.SameBut.update s.heap I _).2 b hb).trans e
 | some p =>
   obtain ⟨x, nt⟩ := p
   dsimp only
   refine wpAny_bind (wpAny_setField h rfl (by simp) ?_)
   have e1 := Qho (x := rawInt (nt : Int)) h 0 (by decide)
   refine wpAny_bind (wpAny_setField e1 rfl (by simp) ?_)
   have e2 := Heap.get?_update_self (Obj.mapFields (·.setIfInBounds 1 (rawInt ((i : Int) + 1)))) e1 (by rfl)
   refine wpAny_pure ⟨_, rfl, wpAny_pure (q1 x nt rfl _ (e2.trans ?_) fun b o hb e => ?_)⟩
   ·rfl
   ·exact ((Heap.SameBut.update _ I _).2 b hb).trans (((Heap.SameBut.update s.heap I _).2 b hb).trans e)
end
end L2
namespace L2
open PySem PySem.W PySem.Spec PyProof.Rows L3
section
variable {prog : Program} {w : World} {A : Around} {E : Q0} {s : Shared}
theorem Qh3 {S : Addr} {es : Array (Int × Value)} {ep i slot : Nat} {t : SetTable} {R : Option (Value × Nat) → Shared → Prop} (ht : w.params.followText "set-order" = true) (X : StrS prog w s.heap S es ep t) (h : R (((pickOrder (w.params.setOrder S ep) es)[i]?).map fun e => (e.2, slot)) s) : wpAny (model prog w) A (setNext S slot i ep) R E s := by
 obtain ⟨o, ho, hx, hd⟩ := X.ob
 unfold setNext
 refine wpAny_bind (wpAny_setState_of ho hd X.ft ?_)
 dsimp only
 unfold setsByText
 refine wpAny_bind (wpAny_bind (wpAny_askSetting (wpAny_pure ?_)))
 show wpAny _ _ (if w.params.followText "set-order" = true then _ else _) _ _ _
 rw [if_pos ht, if_neg (by simp)]
 unfold setWalk
 refine wpAny_bind (wpAny_bind (wpAny_setState_of ho hd X.ft ?_))
 dsimp only
 unfold setsByText
 refine wpAny_bind (wpAny_bind (wpAny_askSetting (wpAny_pure ?_)))
 show wpAny _ _ (if w.params.followText "set-order" = true then _ else _) _ _ _
 rw [if_pos ht]
 exact wpAny_bind (wpAny_askSetting (wpAny_pure (wpAny_pure h)))
theorem Qk2 {S : Addr} {es : Array (Int × Value)} {ep i slot : Nat} {t : SetTable} {R : Option (Value × Nat) → Shared → Prop} (ht : w.params.followText "set-order" = false) (hs : es.size ≤ 1) (X : StrS prog w s.heap S es ep t)
 (h : R (match es[SetTable.below t.place slot]?, t.place[SetTable.below t.place slot]? with | some (_, x), some j => some (x, j + 1) | _, _ => none) s) : wpAny (model prog w) A (setNext S slot i ep) R E s := by
 obtain ⟨o, ho, hx, hd⟩ := X.ob
 have hl : t.led = true := by rw [X.ld, ht]; rfl
 unfold setNext
 refine wpAny_bind (wpAny_setState_of ho hd X.ft ?_)
 dsimp only
 unfold setsByText
 refine wpAny_bind (wpAny_bind (wpAny_askSetting (wpAny_pure ?_)))
 show wpAny _ _ (if w.params.followText "set-order" = true then _ else _) _ _ _
 rw [if_neg (by rw [ht]; decide)]
 show wpAny _ _ (if (!t.plain && decide (es.size > 1)) = true then _ else _) _ _ _
 rw [if_neg (by simp; omega)]
 show wpAny _ _ ((if (!t.led && !es.isEmpty) = true then unsupported "set:maker-not-led" else pure ()) >>= _) _ _ _
 rw [if_neg (by rw [hl]; simp)]
 exact wpAny_bind (wpAny_pure (wpAny_pure h))
theorem Qgi {I S T : Addr} {es : Array (Int × Value)} {ep i : Nat} {t : SetTable} {pl : List Nat} {Q : Option Value → Shared → Prop} (hh : A.handled = none) (X : StrS prog w s.heap S es ep t) (h : s.heap.get? I = some (siO (.ref T) (.ref S) i es.size ep)) (hT : s.heap.get? T = some (seqObj "tuple" (List.toArray (pl.map fun (j : Nat) => rawInt (j : Int))) 0)) (hp : ∀ j ∈ pl, j < es.size)
 (q1 : ∀ (j : Nat) (hj : j < es.size), pl[i]? = some j → ∀ h', h'.get? I = some (siO (.ref T) (.ref S) (i + 1) es.size ep) → (∀ b o, b ≠ I → s.heap.get? b = some o → h'.get? b = some o) → Q (some es[j].2) { s with heap := h' })
 (q2 : pl[i]? = none → ∀ h', (∀ b o, b ≠ I → s.heap.get? b = some o → h'.get? b = some o) → Q none { s with heap := h' }) : wpAny (model prog w) A (pyNext (.ref I)) Q E s := by
 obtain ⟨o, ho, hx, hd⟩ := X.ob
 unfold pyNext
 refine wpAny_bind (wpAny_attempt (wpAny_callSpecial?_slot (name := Str.ofString "__next__") (Qcy h) Qfo (wpAny_call_entry Qfo (Qcy h) en_si ?_ (ar_si _))))
 unfold Builtin.«set_iterator.__next__»; refine wpAny_bind (wpAny_pure (wpAny_bind (wpAny_fieldsOf h rfl ?_)))
 dsimp only; refine wpAny_bind (wpAny_setEntries_of ho hd X.ft ?_)
 rw [if_neg (by simp)]
 unfold seqItems?
 refine wpAny_bind (wpAny_bind (wpAny_load hT (wpAny_pure ?_)))
 simp only [Int.toNat_natCast, List.getElem?_toArray, List.getElem?_map]
 cases hj : pl[i]? with
 | none =>
   dsimp only [Option.map]
   refine wpAny_bind (wpAny_setField h rfl (by simp) ?_)
   have e1 := Qho (x := rawInt 0) h 0 (by decide)
   refine wpAny_bind (wpAny_setField e1 rfl (by simp) ?_)
   refine Qgd hh fun h' k => q2 hj h' fun b o hb e => k b o ?_
   exact ((Heap.SameBut.update _ I _).2 b hb).trans (((Heap.SameBut.update s.heap I _).2 b hb).trans e)
 | some j =>
   have hlt := hp j (List.mem_of_getElem? hj)
   dsimp only [Option.map, rawInt]
   simp only [Int.toNat_natCast]
   unfold setNextDrawn
   refine wpAny_bind (wpAny_bind (wpAny_setState_of ho hd X.ft ?_))
   dsimp only
   rw [if_neg (by simp)]
   rw [Array.getElem?_eq_getElem hlt]
   refine wpAny_bind (wpAny_pure (wpAny_pure ?_))
   refine wpAny_bind (wpAny_setField h rfl (by simp) ?_)
   have e1 := Qho (x := rawInt ((i : Int) + 1)) h 1 (by decide)
   exact wpAny_pure ⟨_, rfl, wpAny_pure (q1 j hlt hj _ e1 fun b o hb e => ((Heap.SameBut.update s.heap I _).2 b hb).trans e)⟩
end
end L2
namespace L2
open PySem PySem.W PySem.Spec PyProof.Rows L3
section
variable {prog : Program} {w : World} {A : Around} {E : Q0} {s : Shared}
theorem Qfj (j x : Nat) : SetTable.below #[j] x = if j < x then 1 else 0 := by
 unfold SetTable.below
 simp [SetTable.below.go]
theorem Qjh (a : Array Nat) (h : a.size = 1) : ∃ j, a = #[j] := by
 obtain ⟨l⟩ := a
 have h2 : l.length = 1 := h
 obtain ⟨j, rfl⟩ := List.length_eq_one_iff.mp h2
 exact ⟨j, rfl⟩
theorem Qlj (hh : A.handled = none) (I S : Addr) (hne : S ≠ I) (es : Array (Int × Value)) (ep : Nat) (t : SetTable) (ht : w.params.followText "set-order" = true) :
 Walks prog w A I [I, S] [I] ((pickOrder (w.params.setOrder S ep) es).toList.map (·.2)).length (fun i v => ((pickOrder (w.params.setOrder S ep) es).toList.map (·.2))[i]? = some v) (fun i h => h.get? I = some (siO (.int (0 : Nat) 0) (.ref S) i es.size ep) ∧ StrS prog w h S es ep t) where
 sub := fun b hb => by rw [List.mem_singleton.mp hb]; exact List.mem_cons_self
 frame := fun _ _ _ st hk => ⟨hk I (by simp) _ st.1, st.2.same fun o e => hk S (by simp) o e⟩
 item := fun i s Q E hi st hQ => by
  refine Qej hh st.2 st.1 _ (fun R E1 hR => Qh3 ht st.2 hR) (fun x nt hr h' k1 k2 => ?_) (fun hr => ?_)
  ·obtain ⟨e, he, e2⟩ := Option.map_eq_some_iff.mp hr
   cases e2
   refine hQ _ h' s.toks ?_ ⟨k1, st.2.same fun o e => k2 S o hne e⟩ fun b o hb e => k2 b o (fun z => hb (by simp [z])) e
   rw [List.getElem?_map, Array.getElem?_toList, he]
   rfl
  ·rw [Option.map_eq_none_iff] at hr
   rw [List.length_map, Array.length_toList] at hi
   rw [Array.getElem?_eq_getElem hi] at hr
   cases hr
 done := fun s Q E st hQ => by
  refine Qej hh st.2 st.1 _ (fun R E1 hR => Qh3 ht st.2 hR) (fun x nt hr => ?_) (fun hr h' k2 => hQ h' s.toks fun b o hb e => k2 b o (fun z => hb (by simp [z])) e)
  rw [List.length_map, Array.length_toList, Array.getElem?_eq_none (Nat.le_refl _)] at hr
  cases hr
 self := fun _ _ _ _ st hQ => Qfp st.1 hQ
theorem wk_led (hh : A.handled = none) (I S : Addr) (hne : S ≠ I) (es : Array (Int × Value)) (ep : Nat) (t : SetTable) (ht : w.params.followText "set-order" = false) (hs : es.size ≤ 1) :
 Walks prog w A I [I, S] [I] (es.toList.map (·.2)).length (fun i v => (es.toList.map (·.2))[i]? = some v) (fun i h => (∃ slot : Nat, h.get? I = some (siO (.int slot 0) (.ref S) i es.size ep) ∧ SetTable.below t.place slot = i) ∧ StrS prog w h S es ep t) where
 sub := fun b hb => by rw [List.mem_singleton.mp hb]; exact List.mem_cons_self
 frame := fun _ _ _ st hk => ⟨by obtain ⟨sl, h1, h2⟩ := st.1; exact ⟨sl, hk I (by simp) _ h1, h2⟩, st.2.same fun o e => hk S (by simp) o e⟩
 item := fun i s Q E hi st hQ => by
  obtain ⟨⟨sl, h1, h2⟩, X⟩ := st
  rw [List.length_map, Array.length_toList] at hi
  have h0 : i = 0 := by omega
  have hn : es.size = 1 := by omega
  have hp : t.place.size = 1 := by
   have := X.ft
   unfold SetTable.fits at this
   rw [hn] at this
   simp at this
   exact this.1
  obtain ⟨j, hj⟩ := Qjh _ hp
  subst h0
  refine Qej hh X h1 _ (fun R E1 hR => Qk2 ht hs X hR) (fun x nt hr h' k1 k2 => ?_) (fun hr => ?_)
  ·rw [h2, Array.getElem?_eq_getElem hi, hj] at hr
   simp at hr
   obtain ⟨e1, e2⟩ := hr
   refine hQ _ h' s.toks ?_ ⟨⟨nt, k1, ?_⟩, X.same fun o e => k2 S o hne e⟩ fun b o hb e => k2 b o (fun z => hb (by simp [z])) e
   ·rw [List.getElem?_map, Array.getElem?_toList, Array.getElem?_eq_getElem hi, ← e1]
    rfl
   ·rw [hj, Qfj, if_pos (by omega)]
  ·rw [h2, Array.getElem?_eq_getElem hi, hj] at hr
   simp at hr
 done := fun s Q E st hQ => by
  obtain ⟨⟨sl, h1, h2⟩, X⟩ := st
  refine Qej hh X h1 _ (fun R E1 hR => Qk2 ht hs X hR) (fun x nt hr => ?_) (fun hr h' k2 => hQ h' s.toks fun b o hb e => k2 b o (fun z => hb (by simp [z])) e)
  rw [h2, List.length_map, Array.length_toList, Array.getElem?_eq_none (Nat.le_refl _)] at hr
  simp at hr
 self := fun _ _ _ _ st hQ => by
  obtain ⟨⟨sl, h1, _⟩, _⟩ := st
  exact Qfp h1 hQ
theorem Qlk (hh : A.handled = none) (I S T : Addr) (hne : S ≠ I) (hnT : T ≠ I) (es : Array (Int × Value)) (ep : Nat) (t : SetTable) (pl : List Nat) (hp : ∀ j ∈ pl, j < es.size) :
 Walks prog w A I [I, S, T] [I] (pl.map fun j => (es.getD j (0, .none)).2).length (fun i v => (pl.map fun j => (es.getD j (0, .none)).2)[i]? = some v) (fun i h => h.get? I = some (siO (.ref T) (.ref S) i es.size ep) ∧ StrS prog w h S es ep t ∧ h.get? T = some (seqObj "tuple" (List.toArray (pl.map fun (j : Nat) => rawInt (j : Int))) 0)) where
 sub := fun b hb => by rw [List.mem_singleton.mp hb]; exact List.mem_cons_self
 frame := fun _ _ _ st hk => ⟨hk I (by simp) _ st.1, st.2.1.same fun o e => hk S (by simp) o e, hk T (by simp) _ st.2.2⟩
 item := fun i s Q E hi st hQ => by
  refine Qgi hh st.2.1 st.1 st.2.2 hp (fun j hj hr h' k1 k2 => ?_) (fun hr => ?_)
  ·refine hQ _ h' s.toks ?_ ⟨k1, st.2.1.same fun o e => k2 S o hne e, k2 T _ hnT st.2.2⟩ fun b o hb e => k2 b o (fun z => hb (by simp [z])) e
   rw [List.getElem?_map, hr]
   simp [Array.getD, hj]
  ·rw [List.length_map] at hi
   rw [List.getElem?_eq_getElem hi] at hr
   cases hr
 done := fun s Q E st hQ => by
  refine Qgi hh st.2.1 st.1 st.2.2 hp (fun j hj hr => ?_) (fun hr h' k2 => hQ h' s.toks fun b o hb e => k2 b o (fun z => hb (by simp [z])) e)
  rw [List.length_map, List.getElem?_eq_none (Nat.le_refl _)] at hr
  cases hr
 self := fun _ _ _ _ st hQ => Qfp st.1 hQ
theorem Qhu {es : Array (Int × Value)} : ((List.range es.size).map fun j => (es.getD j (0, .none)).2) = es.toList.map (·.2) := by
 apply List.ext_getElem
 ·simp
 ·intro i h1 h2
  have h : i < es.size := by simpa using h1
  simp [Array.getD, h]
theorem Qjr {S : Addr} {es : Array (Int × Value)} {ep : Nat} {t : SetTable} {Q : Q0} (hh : A.handled = none) (X : StrS prog w s.heap S es ep t)
 (hQ : ∀ h' I d (vs : List Value) fp St, vs.Perm (es.toList.map (·.2)) → (∀ b o, s.heap.get? b = some o → h'.get? b = some o) → s.heap.objs.size ≤ I → (∀ b ∈ fp, b = S ∨ s.heap.objs.size ≤ b) → Walks prog w A I fp [I] vs.length (fun i v => vs[i]? = some v) St → St 0 h' → Q (.ref I) { s with heap := h', drawn := d }) :
 wpAny (model prog w) A (pyIter (.ref S)) Q E s := by
 have hT := X.typeIs
 obtain ⟨o, ho, hx, hd⟩ := X.ob
 have lS : S < s.heap.objs.size := Heap.lt_size ho
 refine wpAny_pyIter_slot hT F.slot_set_iter (wpAny_call_entry F.slot_set_iter hT Qmo ?_ (F.args_set_iter_1 _))
 unfold Builtin.«frozenset.__iter__» Builtin.Frozenset.slot0
 refine wpAny_bind (wpAny_bind (wpAny_pure (wpAny_pure ?_)))
 unfold Builtin.Frozenset.sizeOf
 refine wpAny_bind (wpAny_bind (wpAny_setEntries_of ho hd X.ft (wpAny_pure ?_)))
 unfold setDrawn setsByText
 refine wpAny_bind (wpAny_bind (wpAny_setState_of ho hd X.ft ?_))
 dsimp only
 refine wpAny_bind (wpAny_bind (wpAny_askSetting (wpAny_pure (wpAny_pure ?_))))
 show wpAny _ _ (if (!w.params.followText "set-order" && (!t.plain && decide (es.size > 1))) = true then _ else _) _ _ _
 have low : ∀ (I : Addr) (h' : Heap) (d : Drawn) (vs : List Value) (St : Nat → Heap → Prop), True := fun _ _ _ _ _ => trivial
 by_cases hdr : (!w.params.followText "set-order" && (!t.plain && decide (es.size > 1))) = true
 ·rw [if_pos hdr]
  refine wpAny_bind (Qdn _ _ _ _ (by simp) fun pl d hp => ?_)
  have hpl : ∀ j ∈ pl, j < es.size := fun j hj => List.mem_range.mp (hp.mem_iff.mp hj)
  have lpl : pl.length = es.size := by have := hp.length_eq; simpa using this
  refine wpAny_bind (wpAny_newTuple ?_ (by rw [List.length_map, lpl]; exact fits_of_scanBound X.sm))
  refine wpAny_bind (wpAny_setEpoch_of (Heap.get?_push_of_some _ ho) hd X.ft ?_)
  refine wpAny_bind (wpAny_newObj_type (wpAny_pure ⟨_, rfl, "set_iterator", _, ⟨_, Heap.get?_push_size _ rfl, rfl⟩, Qfo.lookup, ?_⟩))
  refine hQ _ _ d (pl.map fun j => (es.getD j (0, .none)).2) _ _ ?_ (fun b o e => Heap.get?_push_of_some _ (Heap.get?_push_of_some _ e)) ?_ ?_ (Qlk hh _ S s.heap.objs.size ?_ ?_ es ep t pl hpl) ⟨?_, ?_, ?_⟩
  ·rw [← Qhu]
   exact hp.map _
  ·show s.heap.objs.size ≤ (s.heap.push _).objs.size
   rw [Heap.size_push]
   exact Nat.le_succ _
  ·intro b hb
   simp only [List.mem_cons, List.not_mem_nil, or_false] at hb
   rcases hb with rfl | rfl | rfl
   ·right
    show s.heap.objs.size ≤ (s.heap.push _).objs.size
    rw [Heap.size_push]
    exact Nat.le_succ _
   ·exact .inl rfl
   ·exact .inr (Nat.le_refl _)
  ·show S ≠ (s.heap.push _).objs.size
   rw [Heap.size_push]
   exact Nat.ne_of_lt (Nat.lt_succ_of_lt lS)
  ·show s.heap.objs.size ≠ (s.heap.push _).objs.size
   rw [Heap.size_push]
   exact Nat.ne_of_lt (Nat.lt_succ_self _)
  ·exact Heap.get?_push_size _ rfl
  ·exact X.same fun o e => Heap.get?_push_of_some _ (Heap.get?_push_of_some _ e)
  ·exact Heap.get?_push_of_some _ (Heap.get?_push_size _ rfl)
 ·rw [if_neg hdr]
  refine wpAny_bind (wpAny_pure (wpAny_bind (wpAny_setEpoch_of ho hd X.ft ?_)))
  refine wpAny_bind (wpAny_newObj_type (wpAny_pure ⟨_, rfl, "set_iterator", _, ⟨_, Heap.get?_push_size _ rfl, rfl⟩, Qfo.lookup, ?_⟩))
  have fpS : ∀ b ∈ [s.heap.objs.size, S], b = S ∨ s.heap.objs.size ≤ b := fun b hb => by
   simp only [List.mem_cons, List.not_mem_nil, or_false] at hb
   rcases hb with rfl | rfl
   ·exact .inr (Nat.le_refl _)
   ·exact .inl rfl
  cases ht : w.params.followText "set-order" with
  | true =>
    refine hQ _ _ s.drawn ((pickOrder (w.params.setOrder S ep) es).toList.map (·.2)) _ _ ((Qhw _ es).map _) (fun b o e => Heap.get?_push_of_some _ e) (Nat.le_refl _) fpS (Qlj hh _ S (Nat.ne_of_lt lS) es ep t ht) ⟨Heap.get?_push_size _ rfl, X.same fun o e => Heap.get?_push_of_some _ e⟩
  | false =>
    have hs : es.size ≤ 1 := by
     rw [ht] at hdr
     rcases X.pl with h | h
     ·omega
     ·rw [h] at hdr
      simp at hdr
      omega
    refine hQ _ _ s.drawn (es.toList.map (·.2)) _ _ (.refl _) (fun b o e => Heap.get?_push_of_some _ e) (Nat.le_refl _) fpS (wk_led hh _ S (Nat.ne_of_lt lS) es ep t ht hs) ⟨⟨0, Heap.get?_push_size _ rfl, ?_⟩, X.same fun o e => Heap.get?_push_of_some _ e⟩
    have hp : t.place.size = es.size := by
     have := X.ft
     unfold SetTable.fits at this
     simp at this
     exact this.1
    by_cases h1 : t.place.size = 1
    ·obtain ⟨j, hj⟩ := Qjh _ h1
     rw [hj, Qfj, if_neg (Nat.not_lt_zero _)]
    ·have h2 : t.place = #[] := Array.eq_empty_of_size_eq_zero (by omega)
     rw [h2]
     rfl
end
end L2
namespace L2
open PySem PySem.W PySem.Spec PyProof.Rows L3
theorem Qgk : ∀ (p : Str) (l : List Str), (p :: l).Nodup → risingS p l = true → (p :: l).Pairwise (fun a b => ltS a b = true)
 | p, [], _, _ => List.pairwise_singleton _ _
 | p, x :: r, nd, h => by
   have h2 : (!ltCps x.cps.toList p.cps.toList && risingS x r) = true := h
   rw [Bool.and_eq_true] at h2
   have nd2 := List.nodup_cons.mp nd
   have ih := Qgk x r nd2.2 h2.2
   have px : ltS p x = true := by
    have hne : p ≠ x := fun e => nd2.1 (by rw [e]; exact .head _)
    rw [Ql5 hne]
    have := h2.1
    rw [ltCps_eq] at this
    exact this
   refine List.pairwise_cons.mpr ⟨fun y hy => ?_, ih⟩
   rcases List.mem_cons.mp hy with rfl | hy
   ·exact px
   ·exact ltS_tr px ((List.pairwise_cons.mp ih).1 y hy)
theorem Qev {l : List Str} (nd : l.Nodup) (h : sortedS l = true) : l.Pairwise (fun a b => ltS a b = true) := by
 cases l with
 | nil => exact .nil
 | cons p l => exact Qgk p l nd h
section
variable {prog : Program} {w : World} {A : Around} {E : Q0} {s : Shared}
theorem Qj9 {r : Addr} {Q : Bool → Shared → Prop} (hT : s.TypeIs (.ref r) "set") (h : Q false s) : wpAny (model prog w) A (Builtin.List.listLengthHint (.ref r)) Q E s := by
 unfold Builtin.List.listLengthHint; refine wpAny_bind (wpAny_specialOf hT PySem.F.slot_set_len.lookup ?_)
 generalize hid : ("set.__len__" : String) = id0
 wp_delta; rw [show splitId id0 = some ("set", "__len__") from by subst hid; decide+kernel]; subst hid
 refine wpAny_bind (wpAny_isInstance (T := "set") (b := true) hT (by rw [isSubtype_type]; kernel_rfl) ?_); refine wpAny_ite_split (fun hab => absurd hab (by decide)) (fun _ => ?_)
 refine wpAny_ite_split (fun _ => ?_) (fun hab => absurd (by decide+kernel) hab); exact wpAny_bind (wpAny_typeOf hT (wpAny_pure h))
theorem Qj8 {R : Result → Shared → Prop} {S L : Addr} {es : Array (Int × Value)} {ep : Nat} {t : SetTable} (hh : A.handled = none) (X : StrS prog w s.heap S es ep t) (hLS : L ≠ S) (hL : s.heap.get? L = some { cls := .type "list", data := .seq #[] 0 })
 (hR : ∀ h' tk d acc' c' (vs : List Value), vs.Perm (es.toList.map (·.2)) → (∀ b o, b ≠ L → s.heap.get? b = some o → h'.get? b = some o) → h'.get? L = some { cls := .type "list", dict := none, data := .seq acc' c', slots := #[] } → acc'.toList = vs → R (.ok (.ret (.ref L))) { s with heap := h', toks := tk, drawn := d }) :
 codeAny (model prog w) A (.builtin "list.__iadd__" ⟨[.ref L, .ref S], []⟩) R s := by
 refine codeAny_builtin entry_list_iadd' ?_
 show wpAny (model prog w) A.in1 (Builtin.List.listExtendWith (.ref L) (.ref S) (.ref L)) _ _ s
 unfold Builtin.List.listExtendWith; refine wpAny_bind (wpAny_typeOf (T := "set") X.typeIs ?_)
 have n1 : Builtin.List.listSameRef (.ref L) (.ref S) = false := by simp [Builtin.List.listSameRef, hLS]
 have n2 : (Value.type "set" == Value.type "list") = false := by decide
 have n3 : (Value.type "set" == Value.type "tuple") = false := by decide
 simp only [n1, n2, n3, Bool.or_false, Bool.false_eq_true, if_false]
 refine wpAny_bind (Qjr (A := A.in1) hh X fun h1 I d vs fp St pm k1 lI fpb W st0 => ?_)
 have lL : L < s.heap.objs.size := Heap.lt_size hL
 have hLf : L ∉ fp := fun z => by
  rcases fpb L z with e | e
  ·exact hLS e
  ·exact absurd lL (Nat.not_lt.mpr e)
 have vl : vs.length ≤ sizeLine := by
  rw [pm.length_eq, List.length_map, Array.length_toList]
  exact fits_of_scanBound X.sm
 have L1 := k1 L _ hL
 have key : ∀ (h : Heap) (c1 : Nat), St 0 h → (∀ b o, b ≠ L → s.heap.get? b = some o → h.get? b = some o) → h.get? L = some { cls := .type "list", data := .seq #[] c1 } → codeAny (model prog w) A (.builtin "list.extend.loop" ⟨[.ref L, .ref I, .ref L], []⟩) R { s with heap := h, drawn := d } := fun h c1 hst hk hS1 => by
  refine codeAny_extend_loopS W.toS vl L hLf (.ref L) vs.length 0 _ #[] c1 rfl (Nat.zero_le _) hst hS1 (ItemsOf.nil _) fun s' acc' c' hm hS' hacc => ?_
  rw [Moved.eq_with hm]
  refine hR s'.heap s'.toks d acc' c' vs pm (fun b o hb e => hm.heap b o (fun z => ?_) (hk b o hb e)) hS' ?_
  ·rcases List.mem_cons.mp z with e' | z
   ·exact hb e'
   ·rw [List.mem_singleton.mp z] at e
    exact absurd (Heap.lt_size e) (Nat.not_lt.mpr lI)
  ·apply List.ext_getElem?
   intro i
   by_cases hi : i < acc'.toList.length
   ·have hi2 : i < acc'.size := by simpa using hi
    have := hacc.2 i acc'[i] (Array.getElem?_eq_getElem hi2)
    rw [List.getElem?_eq_getElem hi, this]
    simp
   ·have hz := hacc.1
    rw [List.getElem?_eq_none (by omega), List.getElem?_eq_none (by simp at hi; omega)]
 refine wpAny_bind (wpAny_holding (Qj9 (s := { s with heap := h1, drawn := d }) (X.same (h' := h1) fun o e => k1 _ o e).typeIs ?_))
 refine wpAny_ite_split (fun _ => ?_) (fun _ => wpAny_pure ⟨plainId_quiet PySem.F.plain_extend_loop _, key _ 0 st0 (fun b o _ e => k1 b o e) L1⟩)
 refine wpAny_bind (wpAny_rule (wpAny_bind ?_)); show wpAny _ _ (updateSeq L (·.push .none) >>= fun _ => updateSeq L (·.pop)) _ _ _
 refine wpAny_bind (wpAny_updateSeq L1 rfl ?_)
 have L2_ := Heap.get?_update_self (Obj.mapSeq (·.push Value.none)) L1 rfl
 refine wpAny_updateSeq (hz := by seq_fits) L2_ rfl ?_
 have L3_ := Heap.get?_update_self (Obj.mapSeq (·.pop)) L2_ rfl
 refine wpAny_pure ⟨plainId_quiet PySem.F.plain_extend_loop _, key _ _ ?_ (fun b o hb e => ?_) L3_⟩
 ·refine W.frame 0 _ _ st0 fun b hb o e => ?_
  have hbL : b ≠ L := fun z => hLf (z ▸ hb)
  exact (Heap.get?_update_other _ _ (Ne.symm hbL)).trans ((Heap.get?_update_other _ _ (Ne.symm hbL)).trans e)
 ·exact (Heap.get?_update_other _ _ (Ne.symm hb)).trans ((Heap.get?_update_other _ _ (Ne.symm hb)).trans (k1 b o e))
theorem Qf3 {S : Addr} {es : Array (Int × Value)} {ep : Nat} {t : SetTable} {Q : List Value → Shared → Prop} (hh : A.handled = none) (X : StrS prog w s.heap S es ep t)
 (h : ∀ h' tk d vs, vs.Perm (es.toList.map (·.2)) → (∀ b o, s.heap.get? b = some o → h'.get? b = some o) → s.heap.objs.size < h'.objs.size → Q vs { s with heap := h', toks := tk, drawn := d }) : wpAny (model prog w) A (collect (.ref S)) Q E s := by
 unfold collect; refine wpAny_bind (wpAny_runValue (codeAny_builtin entry_proto_collect' ?_))
 have hL : (s.heap.push (seqObj "list" #[] 0)).get? s.heap.objs.size = some (seqObj "list" #[] 0) := Heap.get?_push_size _ rfl
 have X1 : StrS prog w (s.heap.push (seqObj "list" #[] 0)) S es ep t := X.same fun o e => Heap.get?_push_of_some _ e
 have hne : s.heap.objs.size ≠ S := by
  obtain ⟨o, ho, _⟩ := X.ob
  exact Ne.symm (Nat.ne_of_lt (Heap.lt_size ho))
 refine wpAny_bind (wpAny_newList (wpAny_pure ⟨Code.quiet_builtin _ (by decide+kernel), Qj8 (s := { s with heap := s.heap.push (seqObj "list" #[] 0) }) hh X1 hne hL fun h' tk d acc c vs pm k hL' e => ?_⟩))
 refine (wpAny_bind (wpAny_load (s := { s with heap := h', toks := tk, drawn := d }) hL' ?_) : wpAny (model prog w) A (load s.heap.objs.size >>= fun o => match o.data with | .seq xs _ => pure xs.toList | _ => unsupported "internal:collect") Q E { s with heap := h', toks := tk, drawn := d })
 show wpAny (model prog w) A (pure acc.toList) Q E _
 rw [e]
 exact wpAny_pure (h h' tk d vs pm (fun b o hb => k b o (Nat.ne_of_lt (Heap.lt_size hb)) (Heap.get?_push_of_some _ hb)) (Heap.lt_size hL'))
end
end L2
namespace L2
open PySem PySem.W PySem.Spec PyProof.Rows L3
theorem sa_of : ∀ {zs : List Str} {its : List Value}, Vals (zs.map V.str) its → StrsAre its zs
 | [], _, .nil => .nil
 | z :: zs, _, .cons (b := v) r t => by
   obtain ⟨tk, rfl⟩ := r
   exact .cons z tk (sa_of t)
theorem Qlz : ∀ {zs : List Str} {its : List Value}, StrsAre its zs → Vals (zs.map V.str) its
 | _, _, .nil => .nil
 | _, _, .cons y t h => .cons ⟨t, rfl⟩ (Qlz h)
theorem Qks {prog : Program} {w : World} : ∀ {l : List (Int × Value)}, ElemsOf (PySem.strKind prog w) l → StrsAre (l.map (·.2)) (l.map fun e => L2.strOf e.2)
 | [], _ => .nil
 | e :: r, h => by
   obtain ⟨⟨k, hk, _⟩, _⟩ := h.head
   obtain ⟨t, ht⟩ := Value.isStrOf_shape hk
   rw [List.map_cons, List.map_cons, ht]
   exact .cons k t (Qks h.tail)
theorem Qlu {vs us : List Value} (p : vs.Perm us) : ∀ {ks : List Str}, StrsAre us ks → ∃ zs : List Str, StrsAre vs zs ∧ zs.Perm ks := by
 induction p with
 | nil => intro ks h; cases h; exact ⟨[], .nil, .nil⟩
 | cons x _ ih =>
   intro ks h
   cases h with
   | cons y t h =>
     obtain ⟨zs, h1, h2⟩ := ih h
     exact ⟨y :: zs, .cons y t h1, h2.cons y⟩
 | swap x y l =>
   intro ks h
   cases h with
   | cons a t h =>
     cases h with
     | cons b u h => exact ⟨b :: a :: _, .cons b u (.cons a t h), .swap _ _ _⟩
 | trans _ _ ih1 ih2 =>
   intro ks h
   obtain ⟨zs, h1, h2⟩ := ih2 h
   obtain ⟨ys, h3, h4⟩ := ih1 h1
   exact ⟨ys, h3, h4.trans h2⟩
section
variable {prog : Program} {w : World} {A : Around} {E : Q0} {s : Shared}
theorem Qg9 {S : Addr} {es : Array (Int × Value)} {ep : Nat} {t : SetTable} {Q : Q0} (hh : A.handled = none) (X : StrS prog w s.heap S es ep t) (nd : (ksOf es).Nodup) (h64 : es.size < 64)
 (fin : ∀ h' tk d D c (out : List Value) (zs : List Str), StrsAre out zs → zs.Perm (ksOf es) → zs.Pairwise (fun a b => ltS a b = true) → (∀ b o, s.heap.get? b = some o → h'.get? b = some o) → s.heap.objs.size ≤ D → h'.get? D = some (seqObj "list" out.toArray c) → Q (.ref D) { s with heap := h', toks := tk, drawn := d }) :
 wpAny (model prog w) A (call (.builtin "sorted") [Value.ref S]) Q E s := by
 refine Calls.call_function_entry kind_sorted plain_sorted entry_sorted (args_sorted1 _) (?_ : wpAny _ _ (Builtin.«sorted» _) _ _ s)
 unfold Builtin.«sorted»; refine wpAny_bind (m := checkCount "sorted" 1 1 _) (wpAny_pure (wpAny_bind (Qf3 hh X fun h1 tk d vs pm k1 l1 => ?_)))
 obtain ⟨us, sa, pu⟩ := Qlu pm (Qks X.el)
 have lv : vs.length = es.size := by rw [pm.length_eq, List.length_map, Array.length_toList]
 refine wpAny_bind (wpAny_newList ?_ (by rw [sizeLine_eq]; omega))
 have hD : (h1.push (seqObj "list" vs.toArray 0)).get? h1.objs.size = some (seqObj "list" vs.toArray 0) := Heap.get?_push_size _ rfl
 refine wpAny_bind (wpAny_holding (wpAny_call_entry slot_list_sort ⟨_, hD, rfl⟩ entry_list_sort (list_sort_treeK (s := { s with heap := h1.push (seqObj "list" vs.toArray 0), toks := tk, drawn := d }) strKind_oneLt hD sa.keysOf (fun v1 v2 rest e => keyKind_strs (by rw [← e]; exact sa)) (by omega) fun st' a1 a2 => ⟨_, rfl, ?_⟩) (args_list_sort _)))
 obtain ⟨zs, b1, b2, b3⟩ := sorted_out_str sa a1 a2
 have pz := b2.trans pu
 obtain ⟨c, hc⟩ := sortedHeap_at (vs := vs) (out := (arrOf st').map (·.2)) hD
 refine wpAny_pure ⟨_, rfl, fin _ tk d h1.objs.size c ((arrOf st').map (·.2)).toList zs b1 pz (Qev (pz.nodup_iff.mpr nd) b3) (fun b o e => ?_) (Nat.le_of_lt l1) ?_⟩
 ·have hb := k1 b o e
  rw [sortedHeap_old (Nat.ne_of_lt (Heap.lt_size hb)) (by rw [Heap.size_push]; exact Nat.lt_succ_of_lt (Heap.lt_size hb))]
  exact Heap.get?_push_of_some _ hb
 ·rw [Array.toArray_toList]
  exact hc
end
section
variable {X : Cx}
theorem Qfb : CallR X (.builtin "sorted") (fun xs H Q => ∃ (p : Addr) (ss : List Str), xs = [.ref p] ∧ SqL X.K H p (ss.map V.str) ∧ ss.length < 64 ∧ ss.Nodup ∧ ∀ l (zs : List Str), H l = none → zs.Perm ss → zs.Pairwise (fun a b => ltS a b = true) → Q (.ref l) (upd H l (.lst (zs.map V.str)))) := by
 intro pins s σ H xs us Q I r h
 obtain ⟨p, ss, rfl, hq, h64, nd, q⟩ := h
 obtain ⟨u, rfl, rx⟩ := vals1 r
 cases rx
 obtain ⟨its, r', pl, hz⟩ := I.list hq
 have hlen := r'.length
 rw [List.length_map] at hlen
 refine sorted_strs pl.isList (sa_of r') (by omega) fun out zs a1 a2 a3 => ?_
 obtain ⟨e, he⟩ := sortedAll_at s.heap its out
 have l1 := a2.length_eq
 refine ⟨.ref (s.heap.objs.size + 1), _, I.laid (t' := s.toks) (fun _ _ => sortedAll_old) (Nat.le_succ _) (show ObjOk X.prog X.w _ _ _ (.lst (zs.map V.str)) from ⟨?_, out.toList, e, Qlz a1, ?_⟩), rfl, q _ zs (I.hok.fresh (Nat.le_succ _)) a2 (Qev (a2.nodup_iff.mpr nd) a3)⟩
 ·rw [List.length_map]
  have : 64 ≤ sizeLine := by decide
  omega
 ·exact he
def tSortSet (K : Q4) (t : TA) : TE := fun σ H Q => t σ H fun xs H1 => ∃ (p : Addr) (ss : List Str), xs = [.ref p] ∧ SqL K H1 p (ss.map V.str) ∧ ss.length < 64 ∧ ∀ l (zs : List Str), H1 l = none → zs.Nodup → (∀ x, x ∈ zs ↔ x ∈ ss) → zs.Pairwise (fun a b => ltS a b = true) → Q (.ref l) (upd H1 l (.lst (zs.map V.str)))
theorem Inv.drawn {pins : Q3} {σ : St} {H : Hp} {s : Shared} (I : Inv X pins σ H s) (d : Drawn) : Inv X pins σ H { s with drawn := d } := ⟨I.ok, I.os, I.bare, I.base, I.loc, I.cell, I.free, I.freeC, I.pin, I.hok, I.len⟩
theorem Qd6 {e : Expr} {p1 p2 q1 q2 : Pos} {t : TA} (hc : X.calm = true) (hg1 : Gl X "sorted") (hm1 : X.mg "sorted" = none) (hg2 : Gl X "set") (hm2 : X.mg "set" = none) (ha : PA X [e] t)
 (he1 : starEach [.Call (.Name "set" p2) [e] [] q2] X.env = (false, eval (.Call (.Name "set" p2) [e] [] q2) X.env) :: starEach [] X.env := by rfl) (he2 : starEach [e] X.env = (false, eval e X.env) :: starEach [] X.env := by rfl) : PE X (.Call (.Name "sorted" p1) [.Call (.Name "set" p2) [e] [] q2] [] q1) (tSortSet X.K t) := by
 intro pins s σ H Q I h
 refine wpAny_Call_Name_kw (Qdj I hg1 hm1 (u := .builtin "sorted") (by decide+kernel) ?_)
 refine PyProof.Rows.callWith_builtin1 (rest := []) ?_ he1 (by rfl)
 rw [he1]
 show wpAny _ _ (spliced ((false, eval (.Call (.Name "set" p2) [e] [] q2) X.env) :: backTo q1 (starEach [] X.env))) _ _ s
 refine Calls.spliced_cons ?_
 refine wpAny_Call_Name_kw (Qdj I hg2 hm2 (u := .type "set") (by decide+kernel) ?_)
 refine PyProof.Rows.callWith_type1 (thn (ha q2 pins s σ H _ I h) fun us s1 ⟨vs, H1, I1, r1, qq⟩ => ?_) he2 (by rfl)
 obtain ⟨p, ss, rfl, hq, h64, q⟩ := qq
 obtain ⟨u, rfl, rx⟩ := vals1 r1
 cases rx
 obtain ⟨its, r', pl, hz⟩ := I1.list hq
 have hlen := r'.length
 rw [List.length_map] at hlen
 have hlA : its.toArray.size = ss.length := by rw [List.size_toArray]; exact hlen.symm
 refine Qjs (A := X.A) (ss := fun i => ss.getD i "") (I1.ok.hd hc) pl.isList (fun i v hv => ?_) (by rw [hlA]; unfold scanBound; omega) fun h' tk es ep t SS sz nd mm kk => ?_
 ·have hv2 : its[i]? = some v := by simpa using hv
  have hi := (List.getElem?_eq_some_iff.mp hv2).1
  obtain ⟨x, e1, rx⟩ := Qbx r' i hi
  rw [List.getElem?_map] at e1
  obtain ⟨z, hz1, rfl⟩ := Option.map_eq_some_iff.mp e1
  obtain ⟨tk, ht⟩ := rx
  refine ⟨tk, ?_⟩
  rw [List.getElem?_eq_getElem hi] at hv2
  rw [← Option.some.inj hv2, ht]
  simp [List.getD, hz1]
 ·refine Calls.spliced_nil ?_
  have sz2 : es.size < 64 := by omega
  refine Qg9 (s := { s1 with heap := h', toks := tk }) (I1.ok.hd hc) SS nd sz2 fun h2 tk2 d D c out zs sa pz pw k2 lD gD => ?_
  have kk2 : ∀ b o, s1.heap.get? b = some o → h2.get? b = some o := fun b o e => k2 b o (kk b o (Heap.lt_size e) e)
  have lD2 : s1.heap.objs.size ≤ D := by
   obtain ⟨o, ho, _⟩ := SS.ob
   exact Nat.le_trans (Nat.le_of_lt (Heap.lt_size ho)) lD
  have lz : zs.length = es.size := by
   rw [pz.length_eq]
   unfold ksOf
   rw [List.length_map, Array.length_toList]
  have zl : (zs.map V.str).length ≤ sizeLine := by
   rw [List.length_map]
   have : 64 ≤ sizeLine := by decide
   omega
  have I2 := (I1.drawn d).laid (h' := h2) (t' := tk2) kk2 lD2 (show ObjOk X.prog X.w _ _ _ (.lst (zs.map V.str)) from ⟨zl, out, c, Qlz sa, gD⟩)
  refine ⟨.ref D, _, I2, rfl, q D zs (I1.hok.fresh lD2) (pz.nodup_iff.mpr nd) (fun x => ?_) pw⟩
  rw [pz.mem_iff, mm x, hlA]
  constructor
  ·rintro ⟨j, hj, e⟩
   rw [← e]
   simp [List.getD, hj]
  ·intro hx
   obtain ⟨j, hj, e⟩ := List.getElem_of_mem hx
   exact ⟨j, hj, by simp [List.getD, hj, e]⟩
end
end L2
namespace L2
open PySem PySem.W PySem.Spec PyProof.Rows L3
section
variable {X : Cx}
theorem Qh5 : MtM X "dict.update" (fun x vs H Q => ∃ d o kvs more, x = .ref d ∧ vs = [.ref o] ∧ d ≠ o ∧ H d = some (.dK kvs) ∧ H o = some (.dK more) ∧ kvs.length + more.length ≤ 10 ^ 6 ∧ Q .non (upd H d (.dK (putAll kvs more)))) := by
 intro pins s σ H x vs v us Q I rx rv h
 obtain ⟨d, o, kvs, more, rfl, rfl, hne, hd, ho, hl, q⟩ := h
 cases rx
 obtain ⟨u, rfl, ru⟩ := rv.one
 cases ru
 obtain ⟨z, hs, vs1, rel, dd⟩ := dk_of I.hok hd
 obtain ⟨z2, hs2, vs2, rel2, dd2⟩ := dk_of I.hok ho
 have hline : 10 ^ 6 ≤ sizeLine := by decide
 have l1 := rel.length
 have l2 := rel2.length
 have l3 := Qdf more kvs
 refine call_meetsIn PySem.F.slot_dict_update dd.typeIs PySem.F.entry_dict_update (PySem.F.args_dict_update_2 _ _) (meets_dict_update (mixKind X.prog X.w) d o hne hs2) ⟨vs1, vs2, dd, dd2, by omega, fun h' d1 d2 sb => ?_⟩
 have he : ∃ q, h'.get? d = some q := let ⟨q, _, _, hq, _⟩ := d1; ⟨q, hq⟩
 exact ⟨.non, _, Qmr (t' := s.toks) I (by rw [hd]; exact True.intro) sb he (Qle (by omega) hs (rel2.putAll rel) d1), rfl, q⟩
theorem Qem {cm : Bool} {k : Nat} (hr : Room cm k X.A) : OpR X (compareOp .NotEq) (fun x y H Q => ∃ a b xs ys, x = .ref a ∧ y = .ref b ∧ SqL X.K H a xs ∧ SqL X.K H b ys ∧ ((xs.length ≠ ys.length ∧ Q (.bl true) H) ∨ (EqLs X.K H xs ys ∧ Q (.bl false) H))) := by
 intro pins s σ H x y v u Q I rx ry h
 obtain ⟨a, b, xs, ys, rfl, rfl, ha, hb, h⟩ := h
 rcases h with ⟨hne, q⟩ | ⟨he, q⟩
 ·cases rx
  cases ry
  obtain ⟨its, r, pl, hz⟩ := I.list ha
  obtain ⟨its2, r2, pl2, hz2⟩ := I.list hb
  have l1 := r.length
  have l2 := r2.length
  have hu : X.A.units < cLine := by have := hr.un; omega
  refine SeqAt.RcNeAt.lists_lengths pl.isList pl2.isList ?_ hu _ _ _ _ ⟨.bl true, H, I, rfl, q⟩
  simp only [List.size_toArray]
  rw [← l1, ← l2]
  simpa using hne
 ·exact Qgv hr pins s σ H _ _ v u Q I rx ry ⟨a, b, xs, ys, rfl, rfl, ha, hb, he, q⟩
end
end L2
namespace L2
open PySem PySem.Spec PyProof.Rows L3
section
variable {X : Cx} {pins : Q3} {σ : St} {H : Hp} {s : Shared}
end
section
variable {X : Cx}
end
end L2
namespace L2
open PySem PySem.W PySem.Spec PyProof.Rows L3
section
variable {X : Cx}
end
end L2
namespace L2
open PySem PySem.Spec PyProof.Rows L3
section
variable {X : Cx}
end
end L2
namespace L2
open PySem PySem.W PySem.Spec PyProof.Rows L3
section
variable {X : Cx}
end
end L2
namespace L2
open PySem PySem.W PySem.Spec PyProof.Rows L3
section
variable {prog : Program} {w : World} {s : Shared} {A : Around} {E : Q0}
def TwoI (h : Heap) (a : Addr) (k : Int × Int) : Prop := ∃ o n t u, h.get? a = some o ∧ o.cls = .type "tuple" ∧ o.data = .seq #[.int k.1 t, .int k.2 u] n
inductive TwosI (h : Heap) : List Addr → List (Int × Int) → Prop where
 | nil : TwosI h [] []
 | cons {a : Addr} {k : Int × Int} {as : List Addr} {ks : List (Int × Int)} (x : TwoI h a k) (r : TwosI h as ks) : TwosI h (a :: as) (k :: ks)
theorem TwosI.len {h : Heap} : ∀ {as : List Addr} {ks : List (Int × Int)}, TwosI h as ks → as.length = ks.length
 | _, _, .nil => rfl
 | _, _, .cons _ r => congrArg (· + 1) r.len
theorem TwosI.at {h : Heap} : ∀ {as : List Addr} {ks : List (Int × Int)} (i : Nat), TwosI h as ks → i < as.length → ∃ a, (as.map Value.ref).getD i Value.none = .ref a ∧ TwoI h a (ks.getD i (0, 0))
 | _, _, i, .nil, hi => absurd hi (Nat.not_lt_zero _)
 | _, _, 0, .cons x _, _ => ⟨_, rfl, x⟩
 | _, _, i + 1, .cons _ r, hi => by
   obtain ⟨a, e, x⟩ := r.at i (by simpa using hi)
   exact ⟨a, by simpa [List.getD] using e, by simpa [List.getD] using x⟩
end
section
variable {prog : Program} {w : World} {s : Shared} {A : Around} {E : Q0}
end
section
variable {X : Cx}
end
end L2
namespace L2
open PySem PySem.Spec PyProof.Rows L3
section
variable {X : Cx}
end
theorem LcOkT.free {X : Cx} {xs : List Str} {scope : Scope} {cl : List (Str × Addr)} {js : List Nat} (fns : List Str) (hclos : closureFor scope X.env = pure cl) (hf : cl.map (·.1) = fns) (hsub : ∀ p ∈ cl, X.env.cells.lookup p.1 = some p.2) (hcell : ∀ y ∈ scope.names, y.2 ≠ .cell) (hkind : scope.kind = .function) (hnames : ∀ y ∈ scope.names, y.2 = .local → scope.names.lookup y.1 = some .local)
 (hloc : ∀ x ∈ xs, scope.names.lookup x = some .local) (hcov : ∀ z ∈ scope.names, z.2 = .free → z.1 ∈ fns) (hnd : (xs ++ js.map (fun j => X.N.getD j "")).Nodup)
 (hfr : ∀ j ∈ js, ∃ y, X.N[j]? = some y ∧ X.env.kindOf y = some .cell ∧ (relabel scope X.env).names.lookup y = some .cell ∧ y ∈ fns) : LcOkT X xs scope cl js where
 clos := hclos
 sub := fun y c e => hsub (y, c) (Qd8 e)
 kind := hkind
 cell := hcell
 names := hnames
 loc := hloc
 has := fun y h => by
  have : ∃ z ∈ scope.names, z.1 = y ∧ z.2 = .free := by
   rcases h with h | h
   ·exact Qa6 (.inl rfl) hcell h
   ·exact Qa6 (.inr rfl) hcell h
  obtain ⟨z, m, rfl, e⟩ := this
  exact Qcr (by rw [hf]; exact hcov z m e)
 nd := hnd
 fr := fun j hj => by
  obtain ⟨y, a, b, c, d⟩ := hfr j hj
  exact ⟨y, a, b, c, Qcr (by rw [hf]; exact d)⟩
section
variable {X : Cx}
end
end L2
namespace HT
open PySem PySem.Spec PyProof.Rows L2
section
variable {prog : Program} {w : World} {A : Around} {E : Q0} {s : Shared}
end
end HT
namespace L2
open PySem PySem.W PySem.Spec PyProof.Rows L3
section
variable {X : Cx}
end
end L2
namespace L2
open PySem PySem.Spec PyProof.Rows L3
def ItZ (K : Q4) (a b : Addr) : It :=
 ⟨fun i H => ∃ xs ys x y, SqL K H a xs ∧ SqL K H b ys ∧ xs[i]? = some x ∧ ys[i]? = some y,
  fun i H v H' => ∃ t x y, v = .ref t ∧ H t = none ∧ H' = upd H t (.tup [x, y]) ∧ (∀ xs, SqL K H a xs → xs[i]? = some x) ∧ ∀ ys, SqL K H b ys → ys[i]? = some y,
  fun i H => ∃ xs ys, SqL K H a xs ∧ SqL K H b ys ∧ (xs.length ≤ i ∨ ys.length ≤ i)⟩
section
variable {X : Cx} {pins : Q3} {σ : St} {H : Hp} {s : Shared} {h' : Heap}
theorem Inv.turnedT {fp : List Addr} {t : Addr} {o : HO} {t' : Nat} (I : Inv X pins σ H s) (hf : ∀ b ∈ fp, FpOk X pins H b) (k : ∀ b u, b ∉ fp → s.heap.get? b = some u → h'.get? b = some u) (ht : s.heap.objs.size ≤ t)
 (new : ObjOk X.prog X.w (upd H t o) h' t o) : Inv X pins σ (upd H t o) { s with heap := h', toks := t' } := by
 have hn : H t = none := I.hok.fresh ht
 have nf : ∀ b u, H b = some u → b ∉ fp := fun b u e z => by rw [(hf b z).1] at e; cases e
 refine I.call (g' := s.gens) (d' := s.drawn) (ch := fp) ⟨fun b o e n _ hx => k b o hx e, fun b o e n _ hx => ⟨o.slots, k b o hx e⟩, fun b o e n hx => ?_, fun b o e hx => ⟨o, k b o hx e⟩, fun b xs e => ?_, fun b o u e => ?_, fun b ps e => ?_⟩ (fun b u e => ?_) I.bare fun b hb => ?_
 ·have hb : b ≠ t := fun z => by
   have := Heap.lt_size e
   rw [z] at this
   exact absurd this (Nat.not_lt.mpr ht)
  rw [Qar hb]
  exact n
 ·rw [Qar (Qal e hn)]
  exact e
 ·rw [Qar (Qal e hn)]
  exact e
 ·exact ⟨#[], by rw [Qar (Qal e hn), e]; simp⟩
 ·by_cases hb : b = t
  ·subst hb
   rw [Qab] at e
   cases e
   exact new
  ·rw [Qar hb] at e
   refine (I.hok b u e).stay (fun c v hc' q => k c v ?_ q) (fun c q => by rw [Qar (Qal q hn)]; exact q) fun c xs q => by rw [Qar (Qal q hn)]; exact q
   rcases hc' with z | z
   ·rw [z]; exact nf b u e
   ·exact nf c _ z
 ·obtain ⟨_, f1, _, f3, f4, f5⟩ := hf b hb
  exact ⟨f3, f1, f4, f5⟩
theorem Inv.turnedF {fp : List Addr} {t' : Nat} (I : Inv X pins σ H s) (hf : ∀ b ∈ fp, FpOk X pins H b) (k : ∀ b u, b ∉ fp → s.heap.get? b = some u → h'.get? b = some u) : Inv X pins σ H { s with heap := h', toks := t' } := by
 have nf : ∀ b u, H b = some u → b ∉ fp := fun b u e z => by rw [(hf b z).1] at e; cases e
 refine I.call (g' := s.gens) (d' := s.drawn) (ch := fp) ⟨fun b o e n _ hx => k b o hx e, fun b o e n _ hx => ⟨o.slots, k b o hx e⟩, fun b o e n hx => n, fun b o e hx => ⟨o, k b o hx e⟩, fun b xs e => e, fun b o u e => e, fun b ps e => ⟨#[], by rw [e]; simp⟩⟩ (fun b u e => ?_) I.bare fun b hb => ?_
 ·refine (I.hok b u e).stay (fun c v hc' q => k c v ?_ q) (fun c q => q) fun c xs q => q
  rcases hc' with z | z
  ·rw [z]; exact nf b u e
  ·exact nf c _ z
 ·obtain ⟨_, f1, _, f3, f4, f5⟩ := hf b hb
  exact ⟨f3, f1, f4, f5⟩
end
theorem Qjn {P : Program} {w : World} {K : Q4} {elts : List Expr} {x1} {pos : Pos} (a b z TI TO i1 i2 : Addr) (D : ZipApart z TI TO i1 i2 a b) :
 Turn P w K (.Tuple elts x1 pos) (ItZ K a b) [z, TI, TO, i1, i2] z (fun i h => IsZip h z TI TO .none ∧ IsPair h TI (.ref i1) (.ref i2) ∧ (∃ c d, IsPair h TO c d) ∧ h.IsListIter i1 a i ∧ h.IsListIter i2 b i) where
 mem := by simp
 obj := fun i h st c hc => by
  obtain ⟨hz, hTI, ⟨u, v, hTO⟩, ⟨o1, ho1, hc1, hd1⟩, ⟨o2, ho2, hc2, hd2⟩⟩ := st
  simp only [List.mem_cons, List.not_mem_nil, or_false] at hc
  rcases hc with rfl | rfl | rfl | rfl | rfl
  ·exact ⟨_, hz, fun v z => by have z' : Data.fields _ = Data.cell v := z; cases z'⟩
  ·exact ⟨_, hTI, fun v z => by have z' : Data.seq _ _ = Data.cell v := z; cases z'⟩
  ·exact ⟨_, hTO, fun v z => by have z' : Data.seq _ _ = Data.cell v := z; cases z'⟩
  ·exact ⟨o1, ho1, fun v z => by rw [hd1] at z; cases z⟩
  ·exact ⟨o2, ho2, fun v z => by rw [hd2] at z; cases z⟩
 keep := fun i h h' st k => by
  obtain ⟨hz, hTI, ⟨u, v, hTO⟩, h1, h2⟩ := st
  exact ⟨k z (by simp) _ hz, k TI (by simp) _ hTI, ⟨u, v, k TO (by simp) _ hTO⟩, h1.at fun o q => k i1 (by simp) o q, h2.at fun o q => k i2 (by simp) o q⟩
 item := by
  intro X hP hw hK hc i pins s σ H E I hf st hg
  subst hP hw hK
  obtain ⟨xs, ys, x, y, hq, hq2, hx, hy⟩ := hg
  obtain ⟨its, rv, p, hzz⟩ := I.list hq
  obtain ⟨its2, rv2, p2, hzz2⟩ := I.list hq2
  obtain ⟨u, hu, ru⟩ := rv.get hx
  obtain ⟨u2, hu2, ru2⟩ := rv2.get hy
  obtain ⟨hz, hTI, ⟨c, d, hTO⟩, h1, h2⟩ := st
  refine wpAny_pyNext_zip_item D hz hTI hTO h1 h2 p.isList p2.isList (x := u) (y := u2) (by simpa using hu) (by simpa using hu2) fun g hz' hTO' h1' h2' hT' hsz hk => ?_
  refine ⟨_, rfl, wpAny_letOwnedTupleGo_zip hz' fun g2 hz2 hs2 => ?_⟩
  replace hs2 : Heap.SameBut z g g2 := hs2
  have zl : z < s.heap.objs.size := Heap.lt_size hz
  have up : ∀ c o, c ≠ z → g.get? c = some o → g2.get? c = some o := fun c o hcz e => (hs2.2 c hcz).trans e
  have hT2 : g2.get? s.heap.objs.size = some { cls := .type "tuple", data := .seq #[u, u2] } := up _ _ (Nat.ne_of_gt zl) hT'
  have IC := I.turnedT (fp := [z, TI, TO, i1, i2]) (t := s.heap.objs.size) (o := .tup [x, y]) (t' := s.toks) (h' := g2) hf (fun b' o hb e => by
   simp only [List.mem_cons, List.not_mem_nil, or_false, not_or] at hb
   exact up _ _ hb.1 (hk b' o hb.1 hb.2.2.1 hb.2.2.2.1 hb.2.2.2.2 e)) (Nat.le_refl _) ⟨(by show 2 ≤ sizeLine; decide), [u, u2], .cons ru (.cons ru2 .nil), ⟨_, hT2, rfl, _, rfl⟩⟩
  refine ⟨.ref s.heap.objs.size, _, IC, rfl, ⟨_, x, y, rfl, I.hok.fresh (Nat.le_refl _), rfl, (fun zs hzs => by rw [I.Qdl hzs hq]; exact hx), fun zs hzs => by rw [I.Qdl hzs hq2]; exact hy⟩, ⟨hz2, up _ _ D.TIz (hk _ _ D.TIz D.TITO D.TIi1 D.TIi2 hTI), ⟨_, _, up _ _ D.TOz hTO'⟩, h1'.at fun o q => up _ _ D.i1z q, h2'.at fun o q => up _ _ D.i2z q⟩, fun b' hb => ?_⟩
  have bl : b' < s.heap.objs.size := by
   simp only [List.mem_cons, List.not_mem_nil, or_false] at hb
   obtain ⟨o1, ho1, _⟩ := id h1
   obtain ⟨o2, ho2, _⟩ := id h2
   rcases hb with rfl | rfl | rfl | rfl | rfl
   ·exact zl
   ·exact Heap.lt_size hTI
   ·exact Heap.lt_size hTO
   ·exact Heap.lt_size ho1
   ·exact Heap.lt_size ho2
  rw [Qar (Nat.ne_of_lt bl)]
  exact (hf b' hb).1
 done := by
  intro X hP hw hK hc i pins s σ H E I hf st hg
  subst hP hw hK
  obtain ⟨xs, ys, hq, hq2, hx⟩ := hg
  obtain ⟨its, rv, p, hzz⟩ := I.list hq
  obtain ⟨its2, rv2, p2, hzz2⟩ := I.list hq2
  obtain ⟨hz, hTI, ⟨c, d, hTO⟩, h1, h2⟩ := st
  have hl := rv.length
  have hl2 := rv2.length
  refine wpAny_pyNext_zip_end (I.ok.hd hc) D hz hTI hTO h1 h2 p.isList p2.isList (by simp; omega) fun g hk => ⟨rfl, I.turnedF (fp := [z, TI, TO, i1, i2]) (t' := s.toks) hf fun b' o hb e => ?_⟩
  simp only [List.mem_cons, List.not_mem_nil, or_false, not_or] at hb
  exact hk b' o hb.1 hb.2.2.1 hb.2.2.2.1 hb.2.2.2.2 e
 self := fun _ _ _ _ _ st h => wpAny_pyIter_zip st.1 h
section
variable {X : Cx}
def iZip (K : Q4) (ta : TA) : TI := fun σ H R => ta σ H fun vs H1 => ∃ a b, vs = [.ref a, .ref b] ∧ (∃ xs, SqL K H1 a xs) ∧ (∃ ys, SqL K H1 b ys) ∧ R (ItZ K a b) H1
theorem Qhy {l m : Expr} {elts : List Expr} {x1} {tp : Pos} {ta : TA} {p pos : Pos} (hg : Gl X "zip") (hm : X.mg "zip" = none) (ha : PA X [l, m] ta) (hs : starEach [l, m] X.env = (false, eval l X.env) :: starEach [m] X.env := by rfl) (hs2 : starEach [m] X.env = [(false, eval m X.env)] := by rfl) :
 PI X (.Tuple elts x1 tp) (.Call (.Name "zip" p) [l, m] [] pos) (iZip X.K ta) := by
 intro pins s σ H R I h
 refine Call_ (Qdj I hg hm boot_zip (PyProof.Rows.callWith_type1 (thn (ha pos pins s σ H _ I h) fun us s1 ⟨vs, H1, I1, r1, q1⟩ => ?_) (by rw [hs, hs2]) (by rw [hs2]; rfl)))
 obtain ⟨a, b, e, ⟨xs, hq⟩, ⟨ys, hq2⟩, q⟩ := q1
 subst e
 cases r1 with
 | cons r rr =>
   cases rr with
   | cons r2 rr =>
     cases rr
     cases r
     cases r2
     obtain ⟨its, rv, p, hz⟩ := I1.list hq
     obtain ⟨its2, rv2, p2, hz2⟩ := I1.list hq2
     refine call_zip_2 p.isList p2.isList fun h' hzi hTI hTO hi1 hi2 hsz hk => ?_
     refine wpAny_pyIter_zip hzi ?_
     have a1 : a < s1.heap.objs.size := by obtain ⟨_, e, _⟩ := p.isList; exact Heap.lt_size e
     have a2 : b < s1.heap.objs.size := by obtain ⟨_, e, _⟩ := p2.isList; exact Heap.lt_size e
     refine ⟨s1.heap.objs.size + 4, [s1.heap.objs.size + 4, s1.heap.objs.size + 2, s1.heap.objs.size + 3, s1.heap.objs.size, s1.heap.objs.size + 1], _, _, H1, rfl, I1.kept (t' := s1.toks) hk, Qjn a b _ _ _ _ _ (zipApart_new a1 a2), ⟨hzi, hTI, ⟨_, _, hTO⟩, hi1, hi2⟩, fun c hc => ?_, q⟩
     have hge : s1.heap.objs.size ≤ c := by
      simp only [List.mem_cons, List.not_mem_nil, or_false] at hc
      rcases hc with rfl | rfl | rfl | rfl | rfl
      ·exact Nat.le_add_right _ 4
      ·exact Nat.le_add_right _ 2
      ·exact Nat.le_add_right _ 3
      ·exact Nat.le_refl _
      ·exact Nat.le_add_right _ 1
     exact I1.fpOk hge (I1.hok.fresh hge)
theorem Qk4 {K : Q4} {a b : Addr} {xs ys : List V} {T : V → Hp → VK → Prop} {R : Addr → Hp → List V → Prop} {H : Hp} (Pv : Nat → List V → Hp → Prop) (h0 : Pv 0 [] H) (hxy : xs.length = ys.length) (hn : xs.length ≤ sizeLine) (hl : ∀ i zs H, i ≤ xs.length → Pv i zs H → SqL K H a xs ∧ SqL K H b ys ∧ zs.length = i)
 (hs : ∀ i x y zs H t, xs[i]? = some x → ys[i]? = some y → Pv i zs H → H t = none → T (.ref t) (upd H t (.tup [x, y])) fun y H2 => Pv (i + 1) (zs ++ [y]) H2) (hd : ∀ zs H, Pv xs.length zs H → ∀ l, H l = none → R l H zs) :
 ∃ W : Nat → Nat → List V → Hp → Prop, (∃ m, W 0 m [] H) ∧ ∀ i m zs H, W i m zs H →
   ((ItZ K a b).stop i H ∧ ∀ l, H l = none → R l H zs) ∨ ((ItZ K a b).go i H ∧ zs.length < sizeLine ∧ ∃ N : VK, (∀ y H2, N y H2 → ∃ m', m' < m ∧ W (i + 1) m' (zs ++ [y]) H2) ∧ ∀ x H', (ItZ K a b).yld i H x H' → T x H' N) := by
 refine ⟨fun i m zs H => m = xs.length - i ∧ i ≤ xs.length ∧ Pv i zs H, ⟨xs.length, by simp, Nat.zero_le _, h0⟩, ?_⟩
 rintro i m zs H ⟨rfl, hi, p⟩
 obtain ⟨q, q2, hy⟩ := hl i zs H hi p
 by_cases hlt : i < xs.length
 ·have hlt2 : i < ys.length := by omega
  refine .inr ⟨⟨xs, ys, xs[i], ys[i], q, q2, by simp [hlt], by simp [hlt2]⟩, by omega, fun y H2 => Pv (i + 1) (zs ++ [y]) H2, fun y H2 p' => ⟨xs.length - (i + 1), by omega, rfl, hlt, p'⟩, fun x H' hyld => ?_⟩
  obtain ⟨t, x, y, rfl, ht, rfl, h1, h2⟩ := hyld
  exact hs i x y zs _ t (h1 xs q) (h2 ys q2) p ht
 ·have e : i = xs.length := by omega
  subst e
  exact .inl ⟨⟨xs, ys, q, q2, .inl (Nat.le_refl _)⟩, hd zs H p⟩
theorem Qml {K : Q4} {a b : Addr} {xs ys : List V} {g : TG} {tb : TS} {D : Ends} {σ : St} {H : Hp} (Pv : Nat → St → Hp → Prop) (h0 : Pv 0 σ H) (hl : ∀ i σ H, i ≤ min xs.length ys.length → Pv i σ H → SqL K H a xs ∧ SqL K H b ys)
 (hs : ∀ i x y σ H t, xs[i]? = some x → ys[i]? = some y → Pv i σ H → H t = none → g (.ref t) σ (upd H t (.tup [x, y])) fun σ2 H2 => tb { D with nx := Pv (i + 1), ct := Pv (i + 1), bk := D.nx } σ2 H2) (hd : ∀ σ H, Pv (min xs.length ys.length) σ H → D.nx σ H) :
 ∃ W : Nat → Nat → St → Hp → Prop, (∃ m, W 0 m σ H) ∧ ∀ i m σ H, W i m σ H →
   ((ItZ K a b).stop i H ∧ D.nx σ H) ∨ ((ItZ K a b).go i H ∧ ∃ N : St → Hp → Prop, (∀ σ' H', N σ' H' → ∃ m', m' < m ∧ W (i + 1) m' σ' H') ∧ ∀ x H', (ItZ K a b).yld i H x H' → g x σ H' fun σ2 H2 => tb { D with nx := N, ct := N, bk := D.nx } σ2 H2) := by
 refine ⟨fun i m σ H => m = min xs.length ys.length - i ∧ i ≤ min xs.length ys.length ∧ Pv i σ H, ⟨min xs.length ys.length, by simp, Nat.zero_le _, h0⟩, ?_⟩
 rintro i m σ H ⟨rfl, hi, p⟩
 obtain ⟨q, q2⟩ := hl i σ H hi p
 by_cases hlt : i < min xs.length ys.length
 ·have h1 : i < xs.length := by omega
  have h2 : i < ys.length := by omega
  refine .inr ⟨⟨xs, ys, xs[i], ys[i], q, q2, by simp [h1], by simp [h2]⟩, Pv (i + 1), fun σ' H' p' => ⟨min xs.length ys.length - (i + 1), by omega, rfl, hlt, p'⟩, fun x H' hyld => ?_⟩
  obtain ⟨t, x, y, rfl, ht, rfl, h1, h2⟩ := hyld
  exact hs i x y σ _ t (h1 xs q) (h2 ys q2) p ht
 ·have e : i = min xs.length ys.length := by omega
  subst e
  exact .inl ⟨⟨xs, ys, q, q2, by omega⟩, hd σ H p⟩
theorem Qia {K : Q4} {a : Addr} {xs : List V} {T : V → Hp → VK → Prop} {R : Addr → Hp → List V → Prop} {H : Hp} (Pv : Nat → List V → Hp → Prop) (h0 : Pv 0 [] H) (hn : xs.length ≤ sizeLine) (hl : ∀ i zs H, i ≤ xs.length → Pv i zs H → SqL K H a xs ∧ zs.length = i)
 (hs : ∀ i x zs H t, xs[i]? = some x → Pv i zs H → H t = none → T (.ref t) (upd H t (.tup [.int (i : Int), x])) fun y H2 => Pv (i + 1) (zs ++ [y]) H2) (hd : ∀ zs H, Pv xs.length zs H → ∀ l, H l = none → R l H zs) :
 ∃ W : Nat → Nat → List V → Hp → Prop, (∃ m, W 0 m [] H) ∧ ∀ i m zs H, W i m zs H →
   ((ItE K a).stop i H ∧ ∀ l, H l = none → R l H zs) ∨ ((ItE K a).go i H ∧ zs.length < sizeLine ∧ ∃ N : VK, (∀ y H2, N y H2 → ∃ m', m' < m ∧ W (i + 1) m' (zs ++ [y]) H2) ∧ ∀ x H', (ItE K a).yld i H x H' → T x H' N) := by
 refine ⟨fun i m zs H => m = xs.length - i ∧ i ≤ xs.length ∧ Pv i zs H, ⟨xs.length, by simp, Nat.zero_le _, h0⟩, ?_⟩
 rintro i m zs H ⟨rfl, hi, p⟩
 obtain ⟨q, hy⟩ := hl i zs H hi p
 by_cases hlt : i < xs.length
 ·refine .inr ⟨⟨xs, xs[i], q, by simp [hlt]⟩, by omega, fun y H2 => Pv (i + 1) (zs ++ [y]) H2, fun y H2 p' => ⟨xs.length - (i + 1), by omega, rfl, hlt, p'⟩, fun x H' hyld => ?_⟩
  obtain ⟨t, x, rfl, ht, rfl, h1⟩ := hyld
  exact hs i x zs _ t (h1 xs q) p ht
 ·have e : i = xs.length := by omega
  subst e
  exact .inl ⟨⟨xs, q, Nat.le_refl _⟩, hd zs H p⟩
theorem mulN {x y : Int} {n m : Nat} (h1 : x.natAbs < 2 ^ n) (h2 : y.natAbs < 2 ^ m) (hn : n ≤ 4000) (hm : m ≤ 4000) : IntMulOk x y :=
 PySem.IntMulOk.of_le (PySem.intBits_le_iff.mpr (Nat.lt_of_lt_of_le h1 (Nat.pow_le_pow_right (by decide) hn))) (PySem.intBits_le_iff.mpr (Nat.lt_of_lt_of_le h2 (Nat.pow_le_pow_right (by decide) hm))) (by decide)
theorem logN {y : Int} {n : Nat} (h0 : y ≠ 0) (h : y.natAbs < 2 ^ n) (hn : n ≤ 4000) : y ≠ 0 ∧ y.natAbs.log2 < 9000 := by
 have n0 : y.natAbs ≠ 0 := by omega
 have := (Nat.log2_lt n0).mpr h
 exact ⟨h0, by omega⟩
end
end L2
namespace L2
open PySem PySem.Spec PyProof.Rows L3
section
variable {X : Cx}
structure LcOkN (X : Cx) (x : Str) (scope : Scope) (cl : List (Str × Addr)) (js : List Nat) : Prop where
 clos : closureFor scope X.env = pure cl
 sub : ∀ y c, cl.lookup y = some c → X.env.cells.lookup y = some c
 kind : scope.kind = .function
 cf : ∀ n acc, cellsFrom n scope.names acc = (x, n) :: acc
 pc : ∀ h, pushCells h scope.names = h.push { cls := .type "cell", data := .cell none }
 names : ∀ y ∈ scope.names, y.2 = .local → scope.names.lookup y.1 = some .local
 xk : (relabel scope X.env).names.lookup x = some .cell
 has : ∀ y, y ≠ x → (((relabel scope X.env).names.lookup y = some .cell) ∨ ((relabel scope X.env).names.lookup y = some .free)) → ∃ c, cl.lookup y = some c
 nd : (x :: js.map (fun j => X.N.getD j "")).Nodup
 fr : ∀ j ∈ js, ∃ y, X.N[j]? = some y ∧ X.env.kindOf y = some .cell ∧ (relabel scope X.env).names.lookup y = some .cell ∧ ∃ c, cl.lookup y = some c
end
section
variable {X : Cx} {x : Str} {scope : Scope} {cl : List (Str × Addr)} {C : Addr} {s2 : Shared} {H2 : Hp} {fp : List Addr} {N' : List Str} {xe : Q0}
end
end L2
namespace L2
open PySem PySem.Spec PyProof.Rows L3
section
variable {X : Cx}
end
section
variable {X : Cx} {x : Addr} {o e : Expr} {es : List Expr} {to : TE} {t : TA} {name : Str} {apos cpos : Pos} {T id : String} {r : V → List V → Hp → VK → Prop}
end
end L2
namespace PySem.F
end PySem.F
namespace L2
open PySem PySem.Spec PyProof.Rows
section
variable {prog : Program} {w : World} {A : Around} {E : Q0} {s : Shared}
end
end L2
namespace L2
open PySem PySem.Spec PyProof.Rows L3
section
variable {X : Cx} {tg : Expr}
end
section
variable {X : Cx}
end
section
variable {X : Cx}
end
section
variable {X : Cx} {k : Nat} {f : Addr} {fd : FuncData} {ps : List Str} {sp : Sp} {x : Str} {p pos : Pos} {e : Expr} {es : List Expr} {t : TA} {x0 : Addr}
end
end L2
namespace N11
def gF (a b : Int) : Int := (Int.gcd a b : Nat)
theorem g_abs (a b : Int) : Int.gcd (a.natAbs : Int) (b.natAbs : Int) = Int.gcd a b := rfl
theorem g_turn {a b : Int} (ha : 0 ≤ a) (hb : 0 < b) : Int.gcd b (a.fmod b) = Int.gcd a b := by
 rw [Int.fmod_eq_emod_of_nonneg a (Int.le_of_lt hb)]
 obtain ⟨m, rfl⟩ := Int.eq_ofNat_of_zero_le ha
 obtain ⟨n, rfl⟩ := Int.eq_ofNat_of_zero_le (Int.le_of_lt hb)
 show Nat.gcd n (((m : Int) % (n : Int)).natAbs) = Nat.gcd m n
 rw [← Int.natCast_emod, Int.natAbs_natCast, Nat.gcd_comm n, ← Nat.gcd_rec, Nat.gcd_comm]
theorem g_out {a : Int} (ha : 0 ≤ a) : (Int.gcd a 0 : Int) = a := by
 rw [Int.gcd_zero_right]
 omega
theorem frac {t b g : Int} (hb : b ≠ 0) (hg : g = (if b < 0 then -(gF t b) else gF t b)) :
 g ≠ 0 ∧ (Int.fdiv b g ≥ 1) ∧ gF (Int.fdiv t g) (Int.fdiv b g) = 1 ∧ Int.fdiv t g * b = t * Int.fdiv b g ∧ Int.fdiv t g * g = t ∧ Int.fdiv b g * g = b := by
 have g0 : 0 < Int.gcd t b := Int.gcd_pos_of_ne_zero_right t hb
 have gd : g ≠ 0 := by rw [hg]; unfold gF; split <;> omega
 have d1 : (Int.gcd t b : Int) ∣ t := Int.gcd_dvd_left ..
 have d2 : (Int.gcd t b : Int) ∣ b := Int.gcd_dvd_right ..
 have e1 : g ∣ t := by
  rw [hg]; unfold gF; split
  ·exact (Int.neg_dvd).mpr d1
  ·exact d1
 have e2 : g ∣ b := by
  rw [hg]; unfold gF; split
  ·exact (Int.neg_dvd).mpr d2
  ·exact d2
 obtain ⟨x, hx⟩ := e1
 obtain ⟨y, hy⟩ := e2
 have fx : Int.fdiv t g = x := by rw [hx]; exact Int.mul_fdiv_cancel_left x gd
 have fy : Int.fdiv b g = y := by rw [hy]; exact Int.mul_fdiv_cancel_left y gd
 rw [fx, fy]
 have na : g.natAbs = Int.gcd t b := by rw [hg]; unfold gF; split <;> omega
 have gg : Int.gcd x y = 1 := by
  have : Int.gcd t b = g.natAbs * Int.gcd x y := by
   conv => lhs; rw [hx, hy]
   rw [Int.gcd_mul_left]
  rw [na] at this
  exact Nat.eq_of_mul_eq_mul_left g0 (by omega)
 refine ⟨gd, ?_, ?_, ?_, ?_, ?_⟩
 ·-- y ≥ 1
  by_cases c : b < 0
  ·rw [if_pos c] at hg
   have gn : g < 0 := by rw [hg]; unfold gF; omega
   by_cases z : 1 ≤ y
   ·exact z
   ·exfalso
    have := Int.mul_nonneg (show (0 : Int) ≤ -g by omega) (show (0 : Int) ≤ -y by omega)
    rw [Int.neg_mul_neg] at this
    omega
  ·rw [if_neg c] at hg
   have gn : 0 < g := by rw [hg]; unfold gF; omega
   by_cases z : 1 ≤ y
   ·exact z
   ·exfalso
    have := Int.mul_nonneg (show (0 : Int) ≤ g by omega) (show (0 : Int) ≤ -y by omega)
    rw [Int.mul_neg] at this
    omega
 ·unfold gF; rw [gg]; rfl
 ·rw [hy, hx]; rw [Int.mul_comm g x, Int.mul_assoc]
 ·rw [hx, Int.mul_comm]
 ·rw [hy, Int.mul_comm]
end N11
namespace N11
structure GI (o p a b : Int) : Prop where
 is : gF a b = gF o p
theorem Qiu (t b : Int) : 0 ≤ gF t b ∧ (b = 0 ∨ (0 < gF t b ∧ gF t b ≤ (b.natAbs : Int))) := by
 refine ⟨by unfold gF; omega, ?_⟩
 by_cases c : b = 0
 ·exact .inl c
 ·have g0 : 0 < Int.gcd t b := Int.gcd_pos_of_ne_zero_right t c
  have d := Nat.le_of_dvd (show 0 < b.natAbs by omega) (Int.gcd_dvd_natAbs_right t b)
  exact .inr ⟨by unfold gF; omega, by unfold gF; omega⟩
theorem Qf0 (a b : Int) : (Int.fdiv a b).natAbs ≤ a.natAbs := by
 rcases a with (_ | k) | k <;> rcases b with (_ | j) | j
 all_goals first
  | exact Nat.zero_le _
  | exact Nat.div_le_self _ _
  | exact Nat.succ_le_succ (Nat.div_le_self _ _)
  | (show (Int.fdiv 0 _).natAbs ≤ 0; rw [Int.zero_fdiv]; exact Nat.le_refl _)
theorem low {t b d : Int} (hb : b ≠ 0) (hd : d = (if b < 0 then -(gF t b) else gF t b)) :
 1 ≤ Int.fdiv b d ∧ Int.fdiv b d ≤ (b.natAbs : Int) ∧ -(t.natAbs : Int) ≤ Int.fdiv t d ∧ Int.fdiv t d ≤ (t.natAbs : Int) ∧
 gF (Int.fdiv t d) (Int.fdiv b d) = 1 ∧ Int.fdiv t d * b = t * Int.fdiv b d := by
 have h := frac (t := t) (b := b) (g := d) hb hd
 have f1 := Qf0 b d
 have f2 := Qf0 t d
 exact ⟨h.2.1, by omega, by omega, by omega, h.2.2.1, h.2.2.2.1⟩
end N11
namespace N11
theorem Qmg {a b : Int} (ha : 0 ≤ a) (hb : 0 < b) : gF b (a % b) = gF a b := by
 have h := g_turn ha hb
 rw [Int.fmod_eq_emod_of_nonneg a (Int.le_of_lt hb)] at h
 unfold gF
 rw [h]
theorem Qmh (a b : Int) : gF ((a.natAbs : Nat) : Int) ((b.natAbs : Nat) : Int) = gF a b := by
 unfold gF
 rw [g_abs]
theorem g_end {a b x : Int} (h : gF x 0 = gF a b) (hx : 0 ≤ x) : x = gF a b := by
 rw [← h]
 unfold gF
 rw [g_out hx]
def dF (t b : Int) : Int := if b < 0 then -(gF t b) else gF t b
theorem dF_in {t b : Int} (hb : b ≠ 0) : dF t b ≠ 0 ∧ (dF t b).natAbs ≤ b.natAbs := by
 have h := Qiu t b
 unfold dF
 split <;> omega
theorem lowD {t b : Int} (hb : b ≠ 0) : 1 ≤ Int.fdiv b (dF t b) ∧ Int.fdiv b (dF t b) ≤ (b.natAbs : Int) ∧ (Int.fdiv t (dF t b)).natAbs ≤ t.natAbs ∧ gF (Int.fdiv t (dF t b)) (Int.fdiv b (dF t b)) = 1 ∧ Int.fdiv t (dF t b) * b = t * Int.fdiv b (dF t b) := by
 have h := low (t := t) (b := b) (d := dF t b) hb rfl
 exact ⟨h.1, h.2.1, by omega, h.2.2.2.2.1, h.2.2.2.2.2⟩
end N11
namespace N45
theorem gF_l (a b : Int) : N11.gF a b ∣ a := Int.gcd_dvd_left ..
theorem gF_r (a b : Int) : N11.gF a b ∣ b := Int.gcd_dvd_right ..
theorem gF_max {a b d : Int} (h1 : d ∣ a) (h2 : d ∣ b) : d ∣ N11.gF a b := Int.dvd_coe_gcd h1 h2
theorem gF_nn (a b : Int) : 0 ≤ N11.gF a b := Int.natCast_nonneg _
def gL (a : Int) (r : List Int) : Int := r.foldl N11.gF a
theorem Qmi (a x : Int) (r : List Int) : gL a (x :: r) = gL (N11.gF a x) r := rfl
theorem gL_app (a x : Int) (r : List Int) : gL a (r ++ [x]) = N11.gF (gL a r) x := by
 unfold gL
 rw [List.foldl_append]
 rfl
theorem Qkc : ∀ (r : List Int) (a : Int), 0 ≤ a → 0 ≤ gL a r
 | [], _, h => h
 | x :: r, a, _ => Qkc r _ (gF_nn a x)
theorem Qd9 : ∀ (r : List Int) (a : Int), gL a r ∣ a ∧ ∀ x ∈ r, gL a r ∣ x
 | [], a => ⟨Int.dvd_refl a, fun _ h => nomatch h⟩
 | x :: r, a => by
   obtain ⟨h1, h2⟩ := Qd9 r (N11.gF a x)
   rw [Qmi]
   refine ⟨Int.dvd_trans h1 (gF_l a x), fun y hy => ?_⟩
   rcases List.mem_cons.mp hy with e | e
   ·rw [e]
    exact Int.dvd_trans h1 (gF_r a x)
   ·exact h2 y e
theorem Qiv : ∀ (r : List Int) (a d : Int), d ∣ a → (∀ x ∈ r, d ∣ x) → d ∣ gL a r
 | [], _, _, h, _ => h
 | x :: r, a, d, h, hr => Qiv r _ d (gF_max h (hr x List.mem_cons_self)) fun y hy => hr y (List.mem_cons_of_mem _ hy)
def gt (r : List Int) (j : Nat) : Int := r.getD j 0
theorem Qe8 {r : List Int} {j : Nat} (h : j < r.length) : gt r j ∈ r := by
 unfold gt
 rw [List.getD_eq_getElem?_getD, List.getElem?_eq_getElem h]
 exact List.getElem_mem h
theorem Qcm {r : List Int} {j : Nat} (h : j < r.length) : r[j]? = some (gt r j) := by
 unfold gt
 rw [List.getD_eq_getElem?_getD, List.getElem?_eq_getElem h]
 rfl
theorem Qdk {r : List Int} {j : Nat} (h : r.length ≤ j) : gt r j = 0 := by
 unfold gt
 rw [List.getD_eq_getElem?_getD, List.getElem?_eq_none h]
 rfl
theorem Qk3 {r : List Int} {x : Int} (h : x ∈ r) : ∃ j, j < r.length ∧ gt r j = x := by
 obtain ⟨j, hj, e⟩ := List.getElem_of_mem h
 refine ⟨j, hj, ?_⟩
 unfold gt
 rw [List.getD_eq_getElem?_getD, List.getElem?_eq_getElem hj]
 exact e
theorem Qg0 (f : Int → Int) {r : List Int} {j : Nat} (h : j < r.length) : gt (r.map f) j = f (gt r j) := by
 unfold gt
 rw [List.getD_eq_getElem?_getD, List.getD_eq_getElem?_getD, List.getElem?_map, List.getElem?_eq_getElem h]
 rfl
theorem Qkb {r s : List Int} {j : Nat} (h : j < r.length) : gt (r ++ s) j = gt r j := by
 unfold gt
 rw [List.getD_eq_getElem?_getD, List.getD_eq_getElem?_getD, List.getElem?_append_left h]
theorem Qg1 (r s : List Int) (j : Nat) : gt (r ++ s) (r.length + j) = gt s j := by
 unfold gt
 rw [List.getD_eq_getElem?_getD, List.getD_eq_getElem?_getD, List.getElem?_append_right (by omega)]
 congr 2
 omega
theorem Qeo (r : List Int) (m j : Nat) : gt (r.drop m) j = gt r (m + j) := by
 unfold gt
 rw [List.getD_eq_getElem?_getD, List.getD_eq_getElem?_getD, List.getElem?_drop]
def leanF (r : List Int) : List Int := r.map fun x => x.fdiv (gL 0 r)
theorem Qen (r : List Int) : (leanF r).length = r.length := List.length_map ..
theorem Qh9 {r : List Int} (h : gL 0 r ≠ 0) (j : Nat) : gt (leanF r) j * gL 0 r = gt r j := by
 by_cases hj : j < r.length
 ·unfold leanF
  rw [Qg0 _ hj]
  obtain ⟨c, hc⟩ := (Qd9 r 0).2 _ (Qe8 hj)
  rw [hc, Int.mul_fdiv_cancel_left c h, Int.mul_comm]
 ·rw [Qdk (by rw [Qen]; omega), Qdk (by omega), Int.zero_mul]
theorem Qj2 {r : List Int} (h : gL 0 r ≠ 0) : gL 0 (leanF r) = 1 := by
 have n0 := Qkc (leanF r) 0 (Int.le_refl _)
 have nr := Qkc r 0 (Int.le_refl _)
 have d1 : gL 0 (leanF r) * gL 0 r ∣ gL 0 r := by
  refine Qiv r 0 _ (Int.dvd_zero _) fun x hx => ?_
  obtain ⟨j, hj, e⟩ := Qk3 hx
  rw [← e, ← Qh9 h j]
  exact Int.mul_dvd_mul_right _ ((Qd9 (leanF r) 0).2 _ (Qe8 (by rw [Qen]; exact hj)))
 obtain ⟨c, hc⟩ := d1
 have h1 : gL 0 (leanF r) * c = 1 := by
  have : gL 0 r * (gL 0 (leanF r) * c) = gL 0 r * 1 := by
   rw [Int.mul_one]
   conv => rhs; rw [hc]
   rw [← Int.mul_assoc, Int.mul_comm (gL 0 r)]
  exact Int.eq_of_mul_eq_mul_left h this
 exact Int.eq_one_of_mul_eq_one_right n0 h1
def Bt (n : Nat) (x : Int) : Prop := x.natAbs < 2 ^ n
theorem Bt.mono {n m : Nat} {x : Int} (h : Bt n x) (hm : n ≤ m) : Bt m x := Nat.lt_of_lt_of_le h (Nat.pow_le_pow_right (by decide) hm)
theorem Bt.mul {n m : Nat} {x y : Int} (h : Bt n x) (h2 : Bt m y) : Bt (n + m) (x * y) := by
 unfold Bt
 rw [Int.natAbs_mul, Nat.pow_add]
 exact Nat.mul_lt_mul'' h h2
theorem Bt.sub {n : Nat} {x y : Int} (h : Bt n x) (h2 : Bt n y) : Bt (n + 1) (x - y) := by
 unfold Bt at h h2 ⊢
 rw [Nat.pow_succ]
 omega
theorem Bt.add {n : Nat} {x y : Int} (h : Bt n x) (h2 : Bt n y) : Bt (n + 1) (x + y) := by
 unfold Bt at h h2 ⊢
 rw [Nat.pow_succ]
 omega
theorem Ql7 {n : Nat} {r : List Int} (h : ∀ x ∈ r, Bt n x) : ∀ x ∈ leanF r, Bt n x := fun x hx => by
 obtain ⟨y, hy, rfl⟩ := List.mem_map.mp hx
 exact Nat.lt_of_le_of_lt (N11.Qf0 y _) (h y hy)
theorem Qcu {n : Nat} {r : List Int} (h : ∀ x ∈ r, Bt n x) (j : Nat) : Bt n (gt r j) := by
 by_cases hj : j < r.length
 ·exact h _ (Qe8 hj)
 ·rw [Qdk (by omega)]
  show (0 : Int).natAbs < 2 ^ n
  exact Nat.pow_pos (by decide)
def crude (n b : List Int) (p : Nat) : List Int := (n.zip b).map fun z => z.1 * gt b p - z.2 * gt n p
theorem Qdc {n b : List Int} (p : Nat) (h : n.length = b.length) : (crude n b p).length = n.length := by
 unfold crude
 rw [List.length_map, List.length_zip]
 omega
theorem Qdm {n b : List Int} (p : Nat) (h : n.length = b.length) (j : Nat) : gt (crude n b p) j = gt n j * gt b p - gt b j * gt n p := by
 by_cases hj : j < n.length
 ·have h1 : (n.zip b)[j]? = some (gt n j, gt b j) := by
   rw [List.getElem?_zip_eq_some]
   exact ⟨Qcm hj, Qcm (by omega)⟩
  show (crude n b p).getD j 0 = _
  unfold crude
  rw [List.getD_eq_getElem?_getD, List.getElem?_map, h1]
  rfl
 ·rw [Qdk (r := crude n b p) (j := j) (by rw [Qdc p h]; omega), Qdk (r := n) (j := j) (by omega), Qdk (r := b) (j := j) (by omega), Int.zero_mul, Int.zero_mul, Int.sub_zero]
theorem Qg4 {n b : List Int} {p e : Nat} (h : n.length = b.length) (h1 : ∀ x ∈ n, Bt e x) (h2 : ∀ x ∈ b, Bt e x) : ∀ x ∈ crude n b p, Bt (2 * e + 1) x := fun x hx => by
 obtain ⟨j, hj, rfl⟩ := Qk3 hx
 rw [Qdm p h]
 rw [Nat.two_mul]
 exact ((Qcu h1 j).mul (Qcu h2 p)).sub ((Qcu h2 j).mul (Qcu h1 p))
def clr (n b : List Int) (p : Nat) : List Int := leanF (crude n b p)
def sm : Nat → (Nat → Int) → Int
 | 0, _ => 0
 | n + 1, f => sm n f + f n
theorem Qkp (a b : Int) (f g : Nat → Int) : ∀ n, sm n (fun k => f k * a - g k * b) = sm n f * a - sm n g * b
 | 0 => by simp [sm]
 | n + 1 => by
   show sm n (fun k => f k * a - g k * b) + (f n * a - g n * b) = (sm n f + f n) * a - (sm n g + g n) * b
   rw [Qkp a b f g n, Int.add_mul, Int.add_mul]
   omega
theorem Qgg (a : Int) (f g : Nat → Int) : ∀ n, (∀ k < n, f k * a = g k) → sm n f * a = sm n g
 | 0, _ => by simp [sm]
 | n + 1, h => by
   show (sm n f + f n) * a = sm n g + g n
   rw [Int.add_mul, Qgg a f g n fun k hk => h k (by omega), h n (by omega)]
theorem Qca {f g : Nat → Int} : ∀ n, (∀ k < n, f k = g k) → sm n f = sm n g
 | 0, _ => rfl
 | n + 1, h => by
   show sm n f + f n = sm n g + g n
   rw [Qca n fun k hk => h k (by omega), h n (by omega)]
theorem Qdq {f : Nat → Int} {i : Nat} : ∀ n, (∀ k < n, k ≠ i → f k = 0) → sm n f = if i < n then f i else 0
 | 0, _ => by simp [sm]
 | n + 1, h => by
   show sm n f + f n = _
   rw [Qdq n fun k hk => h k (by omega)]
   by_cases hi : i < n
   ·rw [if_pos hi, if_pos (by omega), h n (by omega) (by omega)]
    omega
   ·rw [if_neg hi]
    by_cases e : i = n
    ·subst e
     rw [if_pos (by omega)]
     omega
    ·rw [if_neg (by omega), h n (by omega) (by omega)]
     omega
abbrev Sq := List (List Int)
def mx (S : Sq) (c : List Int) (j : Nat) : Int := sm S.length fun k => gt c k * gt (S.getD k []) j
def uni (m k : Nat) (x : Int) : List Int := (List.range m).map fun i => if i = k then x else 0
theorem Qhd (m k : Nat) (x : Int) : (uni m k x).length = m := by simp [uni]
theorem Qf9 (m k : Nat) (x : Int) (i : Nat) (h : i < m) : gt (uni m k x) i = if i = k then x else 0 := by
 unfold gt uni
 rw [List.getD_eq_getElem?_getD, List.getElem?_map, List.getElem?_range h]
 rfl
def wid (S : Sq) : Sq := (List.range S.length).map fun k => S.getD k [] ++ uni S.length k 1
abbrev Kr := Nat × List Int
structure Row (S : Sq) (e : Nat) (z : Kr) : Prop where
 len : z.2.length = 2 * S.length
 lin : ∀ j < S.length, gt z.2 j = mx S (z.2.drop S.length) j
 one : gL 0 z.2 = 1
 bt : ∀ x ∈ z.2, Bt e x
 key : gt z.2 z.1 ≠ 0
theorem Row.mono {S : Sq} {e e' : Nat} {z : Kr} (h : Row S e z) (he : e ≤ e') : Row S e' z := ⟨h.len, h.lin, h.one, fun x hx => (h.bt x hx).mono he, h.key⟩
theorem Row.key_lt {S : Sq} {e : Nat} {z : Kr} (h : Row S e z) : z.1 < 2 * S.length := by
 by_cases c : z.1 < 2 * S.length
 ·exact c
 ·exact absurd (Qdk (by rw [h.len]; omega)) h.key
def Ap (x y : Kr) : Prop := gt x.2 y.1 = 0 ∧ gt y.2 x.1 = 0
theorem Qdz {n b : List Int} {p : Nat} (hl : n.length = b.length) (hg : gL 0 (crude n b p) ≠ 0) (j : Nat) : gt (clr n b p) j * gL 0 (crude n b p) = gt n j * gt b p - gt b j * gt n p := by
 unfold clr
 rw [Qh9 hg, Qdm p hl]
theorem Qmv {n b : List Int} {p : Nat} (hl : n.length = b.length) : (clr n b p).length = n.length := by
 unfold clr
 rw [Qen, Qdc p hl]
theorem Qer {z b : Kr} {p : Nat} (hl : z.2.length = b.2.length) (hz : gt z.2 z.1 ≠ 0) (hb : gt b.2 p ≠ 0) (h0 : gt b.2 z.1 = 0) : gL 0 (crude z.2 b.2 p) ≠ 0 := fun h => by
 have h1 := Qdm p hl z.1
 rw [h0, Int.zero_mul, Int.sub_zero] at h1
 have hlt : z.1 < (crude z.2 b.2 p).length := by
  rw [Qdc p hl]
  by_cases c : z.1 < z.2.length
  ·exact c
  ·exact absurd (Qdk (by omega)) hz
 have d := (Qd9 (crude z.2 b.2 p) 0).2 _ (Qe8 hlt)
 rw [h] at d
 have := Int.zero_dvd.mp d
 rw [this] at h1
 rcases Int.mul_eq_zero.mp h1.symm with c | c
 ·exact hz c
 ·exact hb c
theorem Qj1 {a b : Int} (h : a * b = 0) (hb : b ≠ 0) : a = 0 := by
 rcases Int.mul_eq_zero.mp h with c | c
 ·exact c
 ·exact absurd c hb
theorem Row.clr {S : Sq} {e p : Nat} {z b : Kr} (hz : Row S e z) (hb : Row S e b) (hp : gt b.2 p ≠ 0) (h0 : gt b.2 z.1 = 0) : Row S (2 * e + 1) (z.1, clr z.2 b.2 p) := by
 have hl : z.2.length = b.2.length := hz.len.trans hb.len.symm
 have hg := Qer hl hz.key hp h0
 have hlc := Qmv (p := p) hl
 refine ⟨hlc.trans hz.len, fun j hj => ?_, Qj2 hg, Ql7 (Qg4 hl hz.bt hb.bt), fun h => ?_⟩
 ·refine Int.eq_of_mul_eq_mul_right hg ?_
  show gt (N45.clr z.2 b.2 p) j * _ = _
  rw [Qdz hl hg, hz.lin j hj, hb.lin j hj]
  unfold mx
  rw [← Qkp]
  symm
  refine Qgg _ _ _ _ fun k hk => ?_
  show gt (List.drop S.length (N45.clr z.2 b.2 p)) k * _ * _ = _
  rw [Qeo, Qeo, Qeo, Int.mul_right_comm, Qdz hl hg, Int.sub_mul]
  congr 1
  ·rw [Int.mul_right_comm]
  ·rw [Int.mul_right_comm]
 ·have h1 := Qdz (p := p) hl hg z.1
  rw [show gt (N45.clr z.2 b.2 p) z.1 = 0 from h, h0, Int.zero_mul, Int.zero_mul, Int.sub_zero] at h1
  rcases Int.mul_eq_zero.mp h1.symm with c | c
  ·exact hz.key c
  ·exact hp c
def kclr (b : Kr) (p : Nat) (z : Kr) : Kr := (z.1, clr z.2 b.2 p)
structure Tn (S : Sq) (e p : Nat) (LA LB : List Kr) : Prop where
 row : ∀ z ∈ LA ++ LB, Row S e z
 pw : (LA ++ LB).Pairwise Ap
 len : LA.length + LB.length = S.length
 zero : ∀ z ∈ LB, ∀ j < p, gt z.2 j = 0
 le : LA.length ≤ p
 ord : LA.length = p → LA.map (·.1) = List.range p
theorem Tn.skip {S : Sq} {e p : Nat} {LA LB : List Kr} (h : Tn S e p LA LB) (hz : ∀ z ∈ LB, gt z.2 p = 0) : Tn S (2 * e + 1) (p + 1) LA LB := by
 refine ⟨fun z hz => (h.row z hz).mono (by omega), h.pw, h.len, fun z m j hj => ?_, by have := h.le; omega, fun e => by have := h.le; omega⟩
 by_cases c : j = p
 ·rw [c]
  exact hz z m
 ·exact h.zero z m j (by omega)
theorem Tn.step {S : Sq} {e p : Nat} {LA L1 L2 : List Kr} {b : Kr} (h : Tn S e p LA (L1 ++ b :: L2)) (hp : gt b.2 p ≠ 0) :
 Tn S (2 * e + 1) (p + 1) (LA.map (kclr b p) ++ [(p, b.2)]) ((L1 ++ L2).map (kclr b p)) := by
 have P1 : (LA ++ (L1 ++ b :: L2)).Perm (b :: (LA ++ (L1 ++ L2))) := by
  rw [← List.append_assoc, ← List.append_assoc]
  exact List.perm_middle
 have sy : ∀ {x y : Kr}, Ap x y → Ap y x := fun h => ⟨h.2, h.1⟩
 have pw1 := (P1.pairwise_iff sy).mp h.pw
 obtain ⟨pb, pr⟩ := List.pairwise_cons.mp pw1
 have rowb : Row S e b := h.row b (P1.symm.subset List.mem_cons_self)
 have rows : ∀ z ∈ LA ++ (L1 ++ L2), Row S e z := fun z hz => h.row z (P1.symm.subset (List.mem_cons_of_mem _ hz))
 have rowc : ∀ z ∈ LA ++ (L1 ++ L2), Row S (2 * e + 1) (kclr b p z) := fun z hz => (rows z hz).clr rowb hp (pb z hz).1
 have hlz : ∀ z ∈ LA ++ (L1 ++ L2), z.2.length = b.2.length := fun z hz => (rows z hz).len.trans rowb.len.symm
 have hgz : ∀ z ∈ LA ++ (L1 ++ L2), gL 0 (crude z.2 b.2 p) ≠ 0 := fun z hz => Qer (hlz z hz) (rows z hz).key hp (pb z hz).1
 have atp : ∀ z ∈ LA ++ (L1 ++ L2), gt (kclr b p z).2 p = 0 := fun z hz => by
  refine Qj1 ?_ (hgz z hz)
  show gt (N45.clr z.2 b.2 p) p * _ = 0
  rw [Qdz (hlz z hz) (hgz z hz), Int.mul_comm, Int.sub_self]
 have rowb' : Row S (2 * e + 1) (p, b.2) := by
  have := rowb.mono (show e ≤ 2 * e + 1 by omega)
  exact ⟨this.len, this.lin, this.one, this.bt, hp⟩
 have P2 : ((LA.map (kclr b p) ++ [(p, b.2)]) ++ (L1 ++ L2).map (kclr b p)).Perm ((p, b.2) :: (LA ++ (L1 ++ L2)).map (kclr b p)) := by
  rw [List.append_assoc, List.map_append (l₁ := LA)]
  exact List.perm_middle
 refine ⟨fun z hz => ?_, (P2.pairwise_iff sy).mpr ?_, ?_, fun z hz j hj => ?_, ?_, fun hl => ?_⟩
 ·rcases List.mem_cons.mp (P2.subset hz) with c | c
  ·rw [c]
   exact rowb'
  ·obtain ⟨y, hy, rfl⟩ := List.mem_map.mp c
   exact rowc y hy
 ·refine List.pairwise_cons.mpr ⟨fun z hz => ?_, ?_⟩
  ·obtain ⟨y, hy, rfl⟩ := List.mem_map.mp hz
   exact ⟨(pb y hy).1, atp y hy⟩
  ·rw [List.pairwise_map]
   refine List.Pairwise.imp_of_mem (fun {y z} hy hz hyz => ?_) pr
   refine ⟨Qj1 ?_ (hgz y hy), Qj1 ?_ (hgz z hz)⟩
   ·show gt (N45.clr y.2 b.2 p) z.1 * _ = 0
    rw [Qdz (hlz y hy) (hgz y hy), hyz.1, (pb z hz).1, Int.zero_mul, Int.zero_mul, Int.sub_zero]
   ·show gt (N45.clr z.2 b.2 p) y.1 * _ = 0
    rw [Qdz (hlz z hz) (hgz z hz), hyz.2, (pb y hy).1, Int.zero_mul, Int.zero_mul, Int.sub_zero]
 ·have := h.len
  simp only [List.length_append, List.length_map, List.length_cons, List.length_nil] at this ⊢
  omega
 ·obtain ⟨y, hy, rfl⟩ := List.mem_map.mp hz
  have hyr : y ∈ LA ++ (L1 ++ L2) := List.mem_append_right _ hy
  have hyB : y ∈ L1 ++ b :: L2 := by
   rcases List.mem_append.mp hy with c | c
   ·exact List.mem_append_left _ c
   ·exact List.mem_append_right _ (List.mem_cons_of_mem _ c)
  by_cases c : j = p
  ·rw [c]
   exact atp y hyr
  ·refine Qj1 ?_ (hgz y hyr)
   show gt (N45.clr y.2 b.2 p) j * _ = 0
   rw [Qdz (hlz y hyr) (hgz y hyr), h.zero y hyB j (by omega), h.zero b (List.mem_append_right _ List.mem_cons_self) j (by omega), Int.zero_mul, Int.zero_mul, Int.sub_zero]
 ·have := h.le
  simp only [List.length_append, List.length_map, List.length_cons, List.length_nil]
  omega
 ·have hl' : LA.length = p := by
   simp only [List.length_append, List.length_map, List.length_cons, List.length_nil] at hl
   omega
  rw [List.map_append, List.map_map, List.range_succ, ← h.ord hl']
  rfl
def fw (B : Sq) (p : Nat) : Option Nat := B.findIdx? fun r => decide (gt r p ≠ 0)
def cut (B : Sq) (i : Nat) : Sq := B.take i ++ B.drop (i + 1)
def stp (p : Nat) (AB : Sq × Sq) : Sq × Sq := match fw AB.2 p with
 | none => AB
 | some i => (AB.1.map (fun r => clr r (AB.2.getD i []) p) ++ [AB.2.getD i []], (cut AB.2 i).map fun r => clr r (AB.2.getD i []) p)
def trn (S : Sq) : Nat → Sq × Sq
 | 0 => ([], wid S)
 | p + 1 => stp p (trn S p)
def ex (E : Nat) : Nat → Nat
 | 0 => E
 | p + 1 => 2 * ex E p + 1
theorem Qmn (E : Nat) : ∀ {p q : Nat}, p ≤ q → ex E p ≤ ex E q := fun {p q} h => by
 induction h with
 | refl => exact Nat.le_refl _
 | step h ih =>
   show _ ≤ 2 * ex E _ + 1
   omega
structure Squ (S : Sq) (E : Nat) : Prop where
 len : ∀ r ∈ S, r.length = S.length
 bt : ∀ r ∈ S, ∀ x ∈ r, Bt E x
 e1 : 1 ≤ E
theorem sgetD {S : Sq} {k : Nat} (h : k < S.length) : S.getD k [] ∈ S := by
 rw [List.getD_eq_getElem?_getD, List.getElem?_eq_getElem h]
 exact List.getElem_mem h
theorem Qll {S : Sq} {E k : Nat} (h : Squ S E) (hk : k < S.length) : Row S E (S.length + k, S.getD k [] ++ uni S.length k 1) := by
 have hl := h.len _ (sgetD hk)
 have hu := Qhd S.length k 1
 have dr : (S.getD k [] ++ uni S.length k 1).drop S.length = uni S.length k 1 := by
  rw [List.drop_append_of_le_length (by omega), ← hl, List.drop_length, List.nil_append]
 have ky : gt (S.getD k [] ++ uni S.length k 1) (S.length + k) = 1 := by
  have := Qg1 (S.getD k []) (uni S.length k 1) k
  rw [hl] at this
  rw [this, Qf9 _ _ _ _ hk, if_pos rfl]
 have len : (S.getD k [] ++ uni S.length k 1).length = 2 * S.length := by rw [List.length_append, hl, hu]; omega
 refine ⟨len, fun j hj => ?_, ?_, fun x hx => ?_, ?_⟩
 ·show gt (S.getD k [] ++ uni S.length k 1) j = mx S ((S.getD k [] ++ uni S.length k 1).drop S.length) j
  rw [dr, Qkb (by omega)]
  unfold mx
  rw [Qdq (i := k) S.length (fun i hi hne => by rw [Qf9 _ _ _ _ hi, if_neg hne, Int.zero_mul]), if_pos hk, Qf9 _ _ _ _ hk, if_pos rfl, Int.one_mul]
 ·have d := (Qd9 (S.getD k [] ++ uni S.length k 1) 0).2 _ (Qe8 (j := S.length + k) (by omega))
  rw [ky] at d
  have n0 := Qkc (S.getD k [] ++ uni S.length k 1) 0 (Int.le_refl _)
  exact Int.eq_one_of_dvd_one n0 d
 ·rcases List.mem_append.mp hx with c | c
  ·exact h.bt _ (sgetD hk) x c
  ·unfold uni at c
   obtain ⟨i, _, rfl⟩ := List.mem_map.mp c
   have h2 : 2 ≤ 2 ^ E := by
    have := Nat.pow_le_pow_right (n := 2) (by decide) h.e1
    simpa using this
   show (if i = k then (1 : Int) else 0).natAbs < 2 ^ E
   split
   ·show 1 < 2 ^ E
    omega
   ·show 0 < 2 ^ E
    omega
 ·show gt (S.getD k [] ++ uni S.length k 1) (S.length + k) ≠ 0
  rw [ky]
  decide
theorem Qjo {S : Sq} {E : Nat} (h : Squ S E) : ∃ LB : List Kr, wid S = LB.map (·.2) ∧ Tn S E 0 [] LB := by
 refine ⟨(List.range S.length).map fun k => (S.length + k, S.getD k [] ++ uni S.length k 1), by rw [List.map_map]; rfl, ?_⟩
 refine ⟨fun z hz => ?_, ?_, by simp, fun _ _ j hj => absurd hj (Nat.not_lt_zero _), Nat.le_refl _, fun _ => rfl⟩
 ·rw [List.nil_append] at hz
  obtain ⟨k, hk, rfl⟩ := List.mem_map.mp hz
  exact Qll h (List.mem_range.mp hk)
 ·rw [List.nil_append, List.pairwise_map]
  have at_ : ∀ i k, i < S.length → k < S.length → i ≠ k → gt (S.getD i [] ++ uni S.length i 1) (S.length + k) = 0 := fun i k hi hk hne => by
   have := Qg1 (S.getD i []) (uni S.length i 1) k
   rw [h.len _ (sgetD hi)] at this
   rw [this, Qf9 _ _ _ _ hk, if_neg (Ne.symm hne)]
  refine List.Pairwise.imp_of_mem (fun {i k} hi hk hne => ?_) (List.nodup_range (n := S.length))
  exact ⟨at_ i k (List.mem_range.mp hi) (List.mem_range.mp hk) hne, at_ k i (List.mem_range.mp hk) (List.mem_range.mp hi) (Ne.symm hne)⟩
theorem Qmk {B : Sq} {p : Nat} (h : fw B p = none) : ∀ r ∈ B, gt r p = 0 := fun r hr => by
 have := (List.findIdx?_eq_none_iff.mp h) r hr
 simpa using this
theorem Qfy {B : Sq} {p i : Nat} (h : fw B p = some i) : i < B.length ∧ gt (B.getD i []) p ≠ 0 := by
 obtain ⟨h1, h2, _⟩ := List.findIdx?_eq_some_iff_getElem.mp h
 refine ⟨h1, ?_⟩
 rw [List.getD_eq_getElem?_getD, List.getElem?_eq_getElem h1]
 simpa using h2
theorem Qge {α : Type} {l : List α} {i : Nat} {x : α} (h : l[i]? = some x) : l = l.take i ++ x :: l.drop (i + 1) := by
 obtain ⟨hi, e⟩ := List.getElem?_eq_some_iff.mp h
 rw [← e, ← List.drop_eq_getElem_cons hi, List.take_append_drop]
theorem Qdo {S : Sq} {E : Nat} (h : Squ S E) : ∀ p, p ≤ S.length → ∃ LA LB : List Kr, trn S p = (LA.map (·.2), LB.map (·.2)) ∧ Tn S (ex E p) p LA LB
 | 0, _ => by
   obtain ⟨LB, e, t⟩ := Qjo h
   exact ⟨[], LB, by show ([], wid S) = _; rw [e]; rfl, t⟩
 | p + 1, hp => by
   obtain ⟨LA, LB, e, t⟩ := Qdo h p (by omega)
   have es : trn S (p + 1) = stp p (LA.map (·.2), LB.map (·.2)) := by rw [← e]; rfl
   cases hf : fw (LB.map (·.2)) p with
   | none =>
     refine ⟨LA, LB, ?_, t.skip fun z hz => Qmk hf _ (List.mem_map.mpr ⟨z, hz, rfl⟩)⟩
     rw [es]
     unfold stp
     rw [hf]
   | some i =>
     obtain ⟨hi, hne⟩ := Qfy hf
     rw [List.length_map] at hi
     have hb : LB[i]? = some LB[i] := List.getElem?_eq_getElem hi
     have hg : (LB.map (·.2)).getD i [] = LB[i].2 := by
      rw [List.getD_eq_getElem?_getD, List.getElem?_map, hb]
      rfl
     rw [hg] at hne
     have sp := Qge hb
     refine ⟨LA.map (kclr LB[i] p) ++ [(p, LB[i].2)], (LB.take i ++ LB.drop (i + 1)).map (kclr LB[i] p), ?_, ?_⟩
     ·rw [es]
      unfold stp
      rw [hf]
      dsimp only
      rw [hg]
      refine Prod.ext ?_ ?_
      ·show List.map _ (LA.map (·.2)) ++ _ = List.map _ _
       rw [List.map_append, List.map_map, List.map_map]
       rfl
      ·show List.map _ (cut (LB.map (·.2)) i) = _
       unfold cut
       rw [← List.map_take, ← List.map_drop, ← List.map_append, List.map_map, List.map_map]
       rfl
     ·refine Tn.step (b := LB[i]) ?_ hne
      rw [← sp]
      exact t
theorem Qhj {S : Sq} {E p : Nat} (h : Squ S E) (hp : p ≤ S.length) : (trn S p).1.length + (trn S p).2.length = S.length ∧ (∀ r ∈ (trn S p).1 ++ (trn S p).2, r.length = 2 * S.length ∧ ∀ x ∈ r, Bt (ex E p) x) := by
 obtain ⟨LA, LB, e, t⟩ := Qdo h p hp
 rw [e]
 refine ⟨by rw [List.length_map, List.length_map]; exact t.len, fun r hr => ?_⟩
 rw [← List.map_append] at hr
 obtain ⟨z, hz, rfl⟩ := List.mem_map.mp hr
 exact ⟨(t.row z hz).len, (t.row z hz).bt⟩
theorem trn_ne {S : Sq} {E p i : Nat} (h : Squ S E) (hp : p ≤ S.length) (hf : fw (trn S p).2 p = some i) : ∀ r ∈ (trn S p).1 ++ cut (trn S p).2 i, gL 0 (crude r ((trn S p).2.getD i []) p) ≠ 0 := by
 obtain ⟨LA, LB, e, t⟩ := Qdo h p hp
 rw [e] at hf ⊢
 dsimp only at hf ⊢
 obtain ⟨hi, hne⟩ := Qfy hf
 rw [List.length_map] at hi
 have hb : LB[i]? = some LB[i] := List.getElem?_eq_getElem hi
 have hg : (LB.map (·.2)).getD i [] = LB[i].2 := by
  rw [List.getD_eq_getElem?_getD, List.getElem?_map, hb]
  rfl
 rw [hg] at hne ⊢
 have P1 : (LA ++ LB).Perm (LB[i] :: (LA ++ (LB.take i ++ LB.drop (i + 1)))) := by
  conv => lhs; rw [Qge hb]
  rw [← List.append_assoc, ← List.append_assoc]
  exact List.perm_middle
 have sy : ∀ {x y : Kr}, Ap x y → Ap y x := fun h => ⟨h.2, h.1⟩
 obtain ⟨pb, _⟩ := List.pairwise_cons.mp ((P1.pairwise_iff sy).mp t.pw)
 intro r hr
 unfold cut at hr
 rw [← List.map_take, ← List.map_drop, ← List.map_append, ← List.map_append] at hr
 obtain ⟨z, hz, rfl⟩ := List.mem_map.mp hr
 have rz := t.row z (P1.symm.subset (List.mem_cons_of_mem _ hz))
 have rb := t.row LB[i] (P1.symm.subset List.mem_cons_self)
 exact Qer (rz.len.trans rb.len.symm) rz.key hne (pb z hz).1
theorem Qhi {S : Sq} {E : Nat} (h : Squ S E) (hB : (trn S S.length).2 = []) : (trn S S.length).1.length = S.length ∧ ∀ k, k < S.length → ∀ r, (trn S S.length).1[k]? = some r →
 r.length = 2 * S.length ∧ gt r k ≠ 0 ∧ (∀ x ∈ r, Bt (ex E S.length) x) ∧ gL 0 r = 1 ∧ (∀ j < S.length, j ≠ k → gt r j = 0) ∧ ∀ j < S.length, gt r j = mx S (r.drop S.length) j := by
 obtain ⟨LA, LB, e, t⟩ := Qdo h S.length (Nat.le_refl _)
 rw [e] at hB ⊢
 dsimp only at hB ⊢
 have hLB : LB = [] := List.map_eq_nil_iff.mp hB
 subst hLB
 have hl : LA.length = S.length := by have := t.len; simpa using this
 have ho := t.ord hl
 refine ⟨by rw [List.length_map]; exact hl, fun k hk r hr => ?_⟩
 have hz : LA[k]? = some LA[k] := List.getElem?_eq_getElem (by omega)
 rw [List.getElem?_map, hz] at hr
 have hr : LA[k].2 = r := Option.some.inj hr
 subst hr
 have ky : ∀ j, (hj : j < S.length) → LA[j].1 = j := fun j hj => by
  have := congrArg (fun l => l[j]?) ho
  simp only [List.getElem?_map, List.getElem?_eq_getElem (show j < LA.length by omega), List.getElem?_range hj] at this
  exact Option.some.inj this
 have rz := t.row LA[k] (List.mem_append_left _ (List.getElem_mem _))
 have pw := t.pw
 rw [List.append_nil] at pw
 refine ⟨rz.len, (by have := rz.key; rw [ky k hk] at this; exact this), rz.bt, rz.one, fun j hj hne => ?_, rz.lin⟩
 rcases Nat.lt_or_gt_of_ne hne with c | c
 ·have := (List.pairwise_iff_getElem.mp pw j k (by omega) (by omega) c).2
  rw [ky j hj] at this
  exact this
 ·have := (List.pairwise_iff_getElem.mp pw k j (by omega) (by omega) c).1
  rw [ky j hj] at this
  exact this
theorem Qlo {S : Sq} {E : Nat} (h : Squ S E) {r : List Int} {B : Sq} (hB : (trn S S.length).2 = r :: B) : r.length = 2 * S.length ∧ (∀ x ∈ r, Bt (ex E S.length) x) ∧ (∃ j, j < S.length ∧ gt (r.drop S.length) j ≠ 0) ∧ ∀ j < S.length, mx S (r.drop S.length) j = 0 := by
 obtain ⟨LA, LB, e, t⟩ := Qdo h S.length (Nat.le_refl _)
 rw [e] at hB
 cases LB with
 | nil => cases hB
 | cons z LB =>
   have hr : z.2 = r := (List.cons.inj hB).1
   subst hr
   have rz := t.row z (List.mem_append_right _ List.mem_cons_self)
   have z0 := t.zero z List.mem_cons_self
   refine ⟨rz.len, rz.bt, ⟨z.1 - S.length, ?_, ?_⟩, fun j hj => by rw [← rz.lin j hj]; exact z0 j hj⟩
   ·have := rz.key_lt
    have hm : ¬ z.1 < S.length := fun c => rz.key (z0 _ c)
    omega
   ·have hm : ¬ z.1 < S.length := fun c => rz.key (z0 _ c)
    rw [Qeo, show S.length + (z.1 - S.length) = z.1 by omega]
    exact rz.key
end N45
namespace N45
theorem Qgf (f : Nat → Int) : ∀ n, ((List.range n).map f).sum = sm n f
 | 0 => rfl
 | n + 1 => by
   rw [List.range_succ, List.map_append, List.sum_append, Qgf f n]
   show _ + (f n + 0) = _
   rw [Int.add_zero]
   rfl
theorem Qh4 (S : Sq) (s : Int) (r : List Int) (h : r.length = S.length) (j : Nat) : mx S (r.map fun x => s * x) j = s * mx S r j := by
 unfold mx
 rw [Int.mul_comm]
 symm
 refine Qgg _ _ _ _ fun k hk => ?_
 rw [Qg0 _ (by omega), Int.mul_comm (gt r k * _) s, Int.mul_assoc]
theorem sm_bt {n e : Nat} {f : Nat → Int} (h : ∀ k < n, Bt e (f k)) : Bt (e + n) (sm n f) := by
 induction n with
 | zero => exact Nat.pow_pos (by decide)
 | succ n ih =>
   show Bt (e + n + 1) (sm n f + f n)
   exact (ih fun k hk => h k (by omega)).add ((h n (by omega)).mono (by omega))
end N45
namespace N45
theorem Qfm {f : Nat → Int} : ∀ n, (∀ k < n, f k = 0) → sm n f = 0
 | 0, _ => rfl
 | n + 1, h => by
   show sm n f + f n = 0
   rw [Qfm n fun k hk => h k (by omega), h n (by omega)]
   rfl
theorem Qgh (f g : Nat → Int) : ∀ n, sm n (fun k => f k + g k) = sm n f + sm n g
 | 0 => rfl
 | n + 1 => by
   show sm n (fun k => f k + g k) + (f n + g n) = (sm n f + f n) + (sm n g + g n)
   rw [Qgh f g n]
   omega
theorem Qeh (a : Int) (f : Nat → Int) : ∀ n, sm n (fun k => a * f k) = a * sm n f
 | 0 => by simp [sm]
 | n + 1 => by
   show sm n (fun k => a * f k) + a * f n = a * (sm n f + f n)
   rw [Qeh a f n, Int.mul_add]
theorem Qfn (a : Nat → Nat → Int) (m : Nat) : ∀ n, sm n (fun j => sm m (fun k => a j k)) = sm m (fun k => sm n (fun j => a j k))
 | 0 => by
   show 0 = sm m fun k => 0
   rw [Qfm m fun _ _ => rfl]
 | n + 1 => by
   show sm n (fun j => sm m (fun k => a j k)) + sm m (fun k => a n k) = sm m (fun k => sm n (fun j => a j k) + a n k)
   rw [Qgh, Qfn a m n]
theorem sm_nn {f : Nat → Int} : ∀ n, (∀ k < n, 0 ≤ f k) → 0 ≤ sm n f
 | 0, _ => Int.le_refl _
 | n + 1, h => by
   show 0 ≤ sm n f + f n
   have := sm_nn n fun k hk => h k (by omega)
   have := h n (by omega)
   omega
theorem Qjq {f : Nat → Int} : ∀ n, (∀ k < n, f k ≤ 0) → sm n f ≤ 0
 | 0, _ => Int.le_refl _
 | n + 1, h => by
   show sm n f + f n ≤ 0
   have := Qjq n fun k hk => h k (by omega)
   have := h n (by omega)
   omega
theorem Qko {f : Nat → Int} {i : Nat} : ∀ n, (∀ k < n, f k ≤ 0) → i < n → f i < 0 → sm n f < 0
 | 0, _, h, _ => absurd h (Nat.not_lt_zero _)
 | n + 1, h, hi, hf => by
   show sm n f + f n < 0
   by_cases c : i = n
   ·subst c
    have := Qjq i fun k hk => h k (by omega)
    omega
   ·have := Qko n (fun k hk => h k (by omega)) (by omega) hf
    have := h n (by omega)
    omega
def sN (S : Sq) (N : Nat → Bool) (k : Nat) : Int := sm S.length fun j => if N j then gt (S.getD k []) j else 0
structure Mm (S : Sq) : Prop where
 off : ∀ k < S.length, ∀ j < S.length, k ≠ j → gt (S.getD k []) j ≤ 0
 nn : ∀ N : Nat → Bool, ∀ k < S.length, N k = true → 0 ≤ sN S N k
 pos : ∀ N : Nat → Bool, (∃ k, k < S.length ∧ N k = true) → ∃ k, k < S.length ∧ N k = true ∧ 0 < sN S N k
theorem NP {S : Sq} (h : Mm S) {x : List Int} (hx : ∀ j < S.length, 0 ≤ mx S x j) : ∀ j < S.length, 0 ≤ gt x j := by
 intro j0 hj0
 refine Classical.byContradiction fun hneg => ?_
 have hneg : gt x j0 < 0 := by omega
 let N : Nat → Bool := fun j => decide (gt x j < 0)
 have T1 : 0 ≤ sm S.length (fun j => if N j then mx S x j else 0) := sm_nn _ fun j hj => by
  split
  ·exact hx j hj
  ·exact Int.le_refl _
 have T2 : sm S.length (fun j => if N j then mx S x j else 0) = sm S.length (fun k => gt x k * sN S N k) := by
  have e1 : sm S.length (fun j => if N j then mx S x j else 0) = sm S.length (fun j => sm S.length (fun k => if N j then gt x k * gt (S.getD k []) j else 0)) := Qca _ fun j _ => by
   by_cases c : N j = true
   ·simp only [c, if_true]
    rfl
   ·simp only [c]
    rw [Qfm _ fun _ _ => by simp]
    simp
  rw [e1, Qfn]
  refine Qca _ fun k _ => ?_
  unfold sN
  rw [← Qeh]
  refine Qca _ fun j _ => ?_
  split
  ·rfl
  ·rw [Int.mul_zero]
 have term : ∀ k < S.length, gt x k * sN S N k ≤ 0 := fun k hk => by
  by_cases c : gt x k < 0
  ·have := h.nn N k hk (decide_eq_true c)
   exact Int.mul_nonpos_of_nonpos_of_nonneg (by omega) this
  ·refine Int.mul_nonpos_of_nonneg_of_nonpos (by omega) (Qjq _ fun j hj => ?_)
   split
   ·rename_i hN
    have hjN : gt x j < 0 := of_decide_eq_true hN
    exact h.off k hk j hj (fun w => by rw [w] at c; exact c hjN)
   ·exact Int.le_refl _
 obtain ⟨k0, hk0, hN0, hp0⟩ := h.pos N ⟨j0, hj0, decide_eq_true hneg⟩
 have hx0 : gt x k0 < 0 := of_decide_eq_true hN0
 have := Qko S.length term hk0 (Int.mul_neg_of_neg_of_pos hx0 hp0)
 omega
theorem mx_neg (S : Sq) (x : List Int) (h : x.length = S.length) (j : Nat) : mx S (x.map fun v => -1 * v) j = -1 * mx S x j := Qh4 S (-1) x h j
theorem NS {S : Sq} (h : Mm S) {x : List Int} (hl : x.length = S.length) (hx : ∀ j < S.length, mx S x j = 0) : ∀ j < S.length, gt x j = 0 := fun j hj => by
 have h1 := NP h (x := x) (fun i hi => by rw [hx i hi]; exact Int.le_refl _) j hj
 have h2 := NP h (x := x.map fun v => -1 * v) (fun i hi => by rw [mx_neg S x hl, hx i hi]; decide) j hj
 rw [Qg0 _ (by omega)] at h2
 omega
theorem Qfl {S : Sq} {E : Nat} (hS : Squ S E) (h : Mm S) : (trn S S.length).2 = [] := by
 cases hB : (trn S S.length).2 with
 | nil => rfl
 | cons r B =>
   obtain ⟨h1, _, ⟨j, hj, hne⟩, h4⟩ := Qlo hS hB
   exact absurd (NS h (x := r.drop S.length) (by rw [List.length_drop]; omega) h4 j hj) hne
structure Inv (S : Sq) (D : Int) (A : Nat → List Int) : Prop where
 pos : 0 < D
 len : ∀ j < S.length, (A j).length = S.length
 left : ∀ j < S.length, ∀ i < S.length, mx S (A j) i = if i = j then D else 0
theorem Inv.nn {S : Sq} {D : Int} {A : Nat → List Int} (I : Inv S D A) (h : Mm S) : ∀ j < S.length, ∀ k < S.length, 0 ≤ gt (A j) k := fun j hj => NP h fun i hi => by
 rw [I.left j hj i hi]
 have := I.pos
 split <;> omega
theorem Inv.right {S : Sq} {D : Int} {A : Nat → List Int} (I : Inv S D A) (h : Mm S) (k : Nat) (hk : k < S.length) (i : Nat) (hi : i < S.length) : sm S.length (fun j => gt (S.getD k []) j * gt (A j) i) = if i = k then D else 0 := by
 let v : List Int := (List.range S.length).map fun i => sm S.length (fun j => gt (S.getD k []) j * gt (A j) i) - if i = k then D else 0
 have vl : v.length = S.length := by simp [v]
 have va : ∀ i < S.length, gt v i = sm S.length (fun j => gt (S.getD k []) j * gt (A j) i) - if i = k then D else 0 := fun i hi => by
  show v.getD i 0 = _
  rw [List.getD_eq_getElem?_getD, List.getElem?_map, List.getElem?_range hi]
  rfl
 have hv : ∀ l < S.length, mx S v l = 0 := fun l hl => by
  have e1 : mx S v l = sm S.length (fun i => sm S.length (fun j => gt (S.getD k []) j * (gt (A j) i * gt (S.getD i []) l)) + (if i = k then -(D * gt (S.getD i []) l) else 0)) := by
   unfold mx
   refine Qca _ fun i hi => ?_
   rw [va i hi, Int.sub_mul]
   have e2 : sm S.length (fun j => gt (S.getD k []) j * gt (A j) i) * gt (S.getD i []) l = sm S.length (fun j => gt (S.getD k []) j * (gt (A j) i * gt (S.getD i []) l)) := Qgg _ _ _ _ fun j _ => by rw [Int.mul_assoc]
   rw [e2]
   split
   ·omega
   ·rw [Int.zero_mul]
    omega
  rw [e1, Qgh, Qfn]
  have e3 : sm S.length (fun j => sm S.length (fun i => gt (S.getD k []) j * (gt (A j) i * gt (S.getD i []) l))) = D * gt (S.getD k []) l := by
   have e4 : ∀ j < S.length, sm S.length (fun i => gt (S.getD k []) j * (gt (A j) i * gt (S.getD i []) l)) = if j = l then gt (S.getD k []) j * D else 0 := fun j hj => by
    rw [Qeh]
    have := I.left j hj l hl
    unfold mx at this
    rw [this]
    by_cases c : l = j
    ·rw [if_pos c, if_pos c.symm]
    ·rw [if_neg c, if_neg (Ne.symm c), Int.mul_zero]
   rw [Qca _ e4, Qdq (i := l) _ fun j _ hne => if_neg hne, if_pos hl, if_pos rfl, Int.mul_comm]
  have e5 : sm S.length (fun i => if i = k then -(D * gt (S.getD i []) l) else 0) = -(D * gt (S.getD k []) l) := by
   rw [Qdq (i := k) _ fun j _ hne => if_neg hne, if_pos hk, if_pos rfl]
  rw [e3, e5]
  omega
 have := NS h vl hv i hi
 rw [va i hi] at this
 omega
def adF (a : Int × Int) (x : Int × Int) : Int × Int := (a.1 * x.2 + x.1 * a.2, a.2 * x.2)
def suF (L : List (Int × Int)) : Int × Int := L.foldl adF (0, 1)
theorem Qeg (L : List (Int × Int)) (x : Int × Int) : suF (L ++ [x]) = adF (suF L) x := by
 unfold suF
 rw [List.foldl_append]
 rfl
end N45
namespace N12
theorem Qf2 {x y z : Int} (h1 : Int.gcd x y = 1) (h2 : Int.gcd x z = 1) : Int.gcd x (y * z) = 1 := by
 show Nat.gcd x.natAbs (y * z).natAbs = 1
 rw [Int.natAbs_mul]
 exact Nat.Coprime.mul_right h1 h2
theorem Qec {x y z : Int} (h : Int.gcd x y = 1) (d : z ∣ y) : Int.gcd x z = 1 :=
 Nat.Coprime.coprime_dvd_right (Int.natAbs_dvd_natAbs.mpr d) h
theorem Qcn {x y z : Int} (h : Int.gcd x y = 1) (d : z ∣ x) : Int.gcd z y = 1 :=
 Nat.Coprime.coprime_dvd_left (Int.natAbs_dvd_natAbs.mpr d) h
theorem Qi6 {a b p q : Int} (h1 : Int.gcd a p = 1) (h2 : Int.gcd q p = 1) : Int.gcd (a * q + b * p) p = 1 := by
 have h : Int.gcd (a * q) p = 1 := by
  rw [Int.gcd_comm] at h1 h2 ⊢
  exact Qf2 h1 h2
 have d : (Int.gcd (a * q + b * p) p : Int) ∣ Int.gcd (a * q) p := by
  refine Int.dvd_coe_gcd ?_ (Int.gcd_dvd_right ..)
  have d1 : (Int.gcd (a * q + b * p) p : Int) ∣ a * q + b * p := Int.gcd_dvd_left ..
  have d2 : (Int.gcd (a * q + b * p) p : Int) ∣ b * p := Int.dvd_mul_of_dvd_right (Int.gcd_dvd_right ..)
  have d3 := Int.dvd_sub d1 d2
  have e : (a * q + b * p) - b * p = a * q := by omega
  rw [e] at d3
  exact d3
 rw [h] at d
 have d2 : (Int.gcd (a * q + b * p) p) ∣ 1 := by exact_mod_cast d
 exact Nat.dvd_one.mp d2
theorem Qit {x y : Int} {g : Int} (hg : g = (Int.gcd x y : Int)) (h0 : 0 < g) {x' y' : Int} (hx : x = g * x') (hy : y = g * y') : Int.gcd x' y' = 1 := by
 have e : Int.gcd x y = g.natAbs * Int.gcd x' y' := by rw [hx, hy, Int.gcd_mul_left]
 have n : g.natAbs = Int.gcd x y := by omega
 rw [n] at e
 have p : 0 < Int.gcd x y := by omega
 exact Nat.eq_of_mul_eq_mul_left p (by omega)
theorem joined {a1 b1 a2 b2 s t r : Int} (hb1 : 1 ≤ b1) (hb2 : 1 ≤ b2) (c1 : Int.gcd a1 b1 = 1) (c2 : Int.gcd a2 b2 = 1)
 (hs : s = (Int.gcd b1 b2 : Int)) (ht : t = a1 * Int.fdiv b2 s + a2 * Int.fdiv b1 s) (hr : r = (Int.gcd t s : Int)) :
 0 < s ∧ 0 < r ∧ 1 ≤ Int.fdiv b1 s * Int.fdiv b2 r ∧ Int.gcd (Int.fdiv t r) (Int.fdiv b1 s * Int.fdiv b2 r) = 1 ∧
 Int.fdiv t r * (b1 * b2) = (a1 * b2 + a2 * b1) * (Int.fdiv b1 s * Int.fdiv b2 r) ∧ Int.fdiv b1 s * Int.fdiv b2 r ≤ b1 * b2 := by
 have s0 : 0 < s := by
  have := Int.gcd_pos_of_ne_zero_right b1 (show b2 ≠ 0 by omega)
  omega
 have r0 : 0 < r := by
  have := Int.gcd_pos_of_ne_zero_right t (show s ≠ 0 by omega)
  omega
 obtain ⟨p, hp⟩ : s ∣ b1 := by rw [hs]; exact Int.gcd_dvd_left ..
 obtain ⟨q, hq⟩ : s ∣ b2 := by rw [hs]; exact Int.gcd_dvd_right ..
 obtain ⟨m, hm⟩ : r ∣ t := by rw [hr]; exact Int.gcd_dvd_left ..
 obtain ⟨u, hu⟩ : r ∣ s := by rw [hr]; exact Int.gcd_dvd_right ..
 have f1 : Int.fdiv b1 s = p := by rw [hp]; exact Int.mul_fdiv_cancel_left p (by omega)
 have f2 : Int.fdiv b2 s = q := by rw [hq]; exact Int.mul_fdiv_cancel_left q (by omega)
 have f3 : Int.fdiv t r = m := by rw [hm]; exact Int.mul_fdiv_cancel_left m (by omega)
 have e2 : b2 = r * (u * q) := by rw [hq, hu, Int.mul_assoc]
 have f4 : Int.fdiv b2 r = u * q := by rw [e2]; exact Int.mul_fdiv_cancel_left _ (by omega)
 rw [f1, f2] at ht
 rw [f1, f3, f4]
 have p0 : 0 < p := by
  by_cases z : 0 < p
  ·exact z
  ·exfalso
   have := Int.mul_nonneg (show 0 ≤ s by omega) (show 0 ≤ -p by omega)
   rw [Int.mul_neg] at this
   omega
 have q0 : 0 < q := by
  by_cases z : 0 < q
  ·exact z
  ·exfalso
   have := Int.mul_nonneg (show 0 ≤ s by omega) (show 0 ≤ -q by omega)
   rw [Int.mul_neg] at this
   omega
 have u0 : 0 < u := by
  by_cases z : 0 < u
  ·exact z
  ·exfalso
   have := Int.mul_nonneg (show 0 ≤ r by omega) (show 0 ≤ -u by omega)
   rw [Int.mul_neg] at this
   omega
 have cpq : Int.gcd p q = 1 := Qit hs s0 hp hq
 have ca1 : Int.gcd a1 p = 1 := Qec c1 ⟨s, by rw [hp, Int.mul_comm]⟩
 have ca2 : Int.gcd a2 q = 1 := Qec c2 ⟨s, by rw [hq, Int.mul_comm]⟩
 have ctp : Int.gcd t p = 1 := by rw [ht]; exact Qi6 ca1 (by rw [Int.gcd_comm]; exact cpq)
 have ctq : Int.gcd t q = 1 := by rw [ht, Int.add_comm]; exact Qi6 ca2 cpq
 have cmp : Int.gcd m p = 1 := Qcn ctp ⟨r, by rw [hm, Int.mul_comm]⟩
 have cmq : Int.gcd m q = 1 := Qcn ctq ⟨r, by rw [hm, Int.mul_comm]⟩
 have cmu : Int.gcd m u = 1 := Qit hr r0 hm hu
 have puq : 0 < p * (u * q) := Int.mul_pos p0 (Int.mul_pos u0 q0)
 refine ⟨s0, r0, by omega, Qf2 cmp (Qf2 cmu cmq), ?_, ?_⟩
 ·have lhs : a1 * b2 + a2 * b1 = s * t := by
   rw [ht, hp, hq, Int.mul_add]
   rw [← Int.mul_assoc a1 s q, ← Int.mul_assoc a2 s p, Int.mul_comm a1 s, Int.mul_comm a2 s, Int.mul_assoc, Int.mul_assoc]
  rw [lhs]
  have e1 : b1 * b2 = s * p * (r * (u * q)) := by rw [← hp, ← e2]
  rw [e1, hm]
  simp only [Int.mul_comm, Int.mul_left_comm]
 ·have e1 : b1 * b2 = (s * r) * (p * (u * q)) := by
   rw [e2, hp]
   simp only [Int.mul_comm, Int.mul_left_comm]
  rw [e1]
  have k : 1 ≤ s * r := by have := Int.mul_pos s0 r0; omega
  have := Int.mul_le_mul_of_nonneg_right k (Int.le_of_lt puq)
  rw [Int.one_mul] at this
  exact this
end N12
namespace N11
theorem Qc5 {a b : Int} : gF a b = 1 ↔ Int.gcd a b = 1 := by unfold gF; omega
theorem Qj7 {a1 b1 a2 b2 : Int} (hb1 : 1 ≤ b1) (hb2 : 1 ≤ b2) (c1 : gF a1 b1 = 1) (c2 : gF a2 b2 = 1) :
 1 ≤ Int.fdiv b1 (gF b1 b2) * Int.fdiv b2 (gF (a1 * Int.fdiv b2 (gF b1 b2) + a2 * Int.fdiv b1 (gF b1 b2)) (gF b1 b2)) ∧
 Int.fdiv b1 (gF b1 b2) * Int.fdiv b2 (gF (a1 * Int.fdiv b2 (gF b1 b2) + a2 * Int.fdiv b1 (gF b1 b2)) (gF b1 b2)) ≤ b1 * b2 ∧
 gF (Int.fdiv (a1 * Int.fdiv b2 (gF b1 b2) + a2 * Int.fdiv b1 (gF b1 b2)) (gF (a1 * Int.fdiv b2 (gF b1 b2) + a2 * Int.fdiv b1 (gF b1 b2)) (gF b1 b2)))
  (Int.fdiv b1 (gF b1 b2) * Int.fdiv b2 (gF (a1 * Int.fdiv b2 (gF b1 b2) + a2 * Int.fdiv b1 (gF b1 b2)) (gF b1 b2))) = 1 ∧
 Int.fdiv (a1 * Int.fdiv b2 (gF b1 b2) + a2 * Int.fdiv b1 (gF b1 b2)) (gF (a1 * Int.fdiv b2 (gF b1 b2) + a2 * Int.fdiv b1 (gF b1 b2)) (gF b1 b2)) * (b1 * b2) =
  (a1 * b2 + a2 * b1) * (Int.fdiv b1 (gF b1 b2) * Int.fdiv b2 (gF (a1 * Int.fdiv b2 (gF b1 b2) + a2 * Int.fdiv b1 (gF b1 b2)) (gF b1 b2))) := by
 have h := N12.joined hb1 hb2 (Qc5.mp c1) (Qc5.mp c2) (s := gF b1 b2) (t := a1 * Int.fdiv b2 (gF b1 b2) + a2 * Int.fdiv b1 (gF b1 b2)) (r := gF (a1 * Int.fdiv b2 (gF b1 b2) + a2 * Int.fdiv b1 (gF b1 b2)) (gF b1 b2)) rfl rfl rfl
 exact ⟨h.2.2.1, h.2.2.2.2.2, Qc5.mpr h.2.2.2.1, h.2.2.2.2.1⟩
end N11
namespace N49
open N11 (gF Qc5)
theorem Qmm {b g : Int} (hg : 0 < g) (hb : 0 ≤ b) : 0 ≤ b.fdiv g ∧ b.fdiv g ≤ b := by
 rw [Int.fdiv_eq_ediv_of_nonneg b (Int.le_of_lt hg)]
 exact ⟨Int.ediv_nonneg hb (Int.le_of_lt hg), Int.ediv_le_self g hb⟩
theorem abs_le {n d B T : Int} (co : gF n d = 1) (e : n * B = T * d) (hB : 1 ≤ B) : n.natAbs ≤ T.natAbs := by
 by_cases z : T = 0
 ·rw [z, Int.zero_mul] at e
  rcases Int.mul_eq_zero.mp e with h | h
  ·rw [h]; exact Nat.zero_le _
  ·omega
 ·have dv : n ∣ T * d := ⟨B, e.symm⟩
  have co : Nat.Coprime n.natAbs d.natAbs := Qc5.mp co
  have dv2 : n.natAbs ∣ T.natAbs * d.natAbs := by rw [← Int.natAbs_mul]; exact Int.natAbs_dvd_natAbs.mpr dv
  exact Nat.le_of_dvd (by omega) (co.dvd_of_dvd_mul_right dv2)
def Ev (a b : Int × Int) : Prop := 1 ≤ a.2 ∧ 1 ≤ b.2 ∧ a.1 * b.2 = b.1 * a.2
theorem Ev.add {a b x y : Int × Int} (h : Ev a b) (k : Ev x y) : Ev (N45.adF a x) (N45.adF b y) := by
 obtain ⟨h1, h2, h3⟩ := h
 obtain ⟨k1, k2, k3⟩ := k
 refine ⟨Int.mul_pos (by omega) (by omega), Int.mul_pos (by omega) (by omega), ?_⟩
 show (a.1 * x.2 + x.1 * a.2) * (b.2 * y.2) = (b.1 * y.2 + y.1 * b.2) * (a.2 * x.2)
 have e1 : a.1 * x.2 * (b.2 * y.2) = b.1 * y.2 * (a.2 * x.2) := by
  rw [show a.1 * x.2 * (b.2 * y.2) = a.1 * b.2 * (x.2 * y.2) by simp only [Int.mul_assoc, Int.mul_comm, Int.mul_left_comm], h3]
  simp only [Int.mul_assoc, Int.mul_comm, Int.mul_left_comm]
 have e2 : x.1 * a.2 * (b.2 * y.2) = y.1 * b.2 * (a.2 * x.2) := by
  rw [show x.1 * a.2 * (b.2 * y.2) = x.1 * y.2 * (a.2 * b.2) by simp only [Int.mul_assoc, Int.mul_comm, Int.mul_left_comm], k3]
  simp only [Int.mul_assoc, Int.mul_comm, Int.mul_left_comm]
 rw [Int.add_mul, Int.add_mul, e1, e2]
theorem Ev.trans {a b c : Int × Int} (h : Ev a b) (k : Ev b c) : Ev a c := by
 obtain ⟨h1, h2, h3⟩ := h
 obtain ⟨k1, k2, k3⟩ := k
 refine ⟨h1, k2, Int.eq_of_mul_eq_mul_right (show b.2 ≠ 0 by omega) ?_⟩
 rw [Int.mul_right_comm, h3, Int.mul_right_comm, k3]
 simp only [Int.mul_assoc, Int.mul_comm, Int.mul_left_comm]
theorem Qkv {a b : Int × Int} (h : Ev a b) (ga : gF a.1 a.2 = 1) (gb : gF b.1 b.2 = 1) : a = b := by
 obtain ⟨h1, h2, h3⟩ := h
 have ga := Qc5.mp ga
 have gb := Qc5.mp gb
 have d1 : a.2.natAbs ∣ b.2.natAbs := by
  have : a.2.natAbs ∣ a.1.natAbs * b.2.natAbs := by
   rw [← Int.natAbs_mul, h3, Int.natAbs_mul]
   exact Nat.dvd_mul_left ..
  exact Nat.Coprime.dvd_of_dvd_mul_left (Nat.Coprime.symm ga) this
 have d2 : b.2.natAbs ∣ a.2.natAbs := by
  have : b.2.natAbs ∣ b.1.natAbs * a.2.natAbs := by
   rw [← Int.natAbs_mul, ← h3, Int.natAbs_mul]
   exact Nat.dvd_mul_left ..
  exact Nat.Coprime.dvd_of_dvd_mul_left (Nat.Coprime.symm gb) this
 have e2 : a.2 = b.2 := by
  have := Nat.dvd_antisymm d1 d2
  omega
 rw [e2] at h3
 exact Prod.ext (Int.eq_of_mul_eq_mul_right (by omega) h3) e2
end N49
namespace K49
open PySem L2 L3
def top (i : Nat) : Stmt := PySem.Challenge.pw_groupbooks_k49_whole_one_and_only.main.body.getD i (.Pass ⟨0, 0, 0, 0⟩)
abbrev sbp0 : Stmt := top 9
abbrev sar0 : Stmt := top 10
abbrev sbj0 : Stmt := top 11
abbrev sbs0 : Stmt := top 12
abbrev sbd0 : Stmt := top 13
abbrev sbf0 : Stmt := top 14
abbrev sbo0 : Stmt := top 15
abbrev sas0 : Stmt := top 16
abbrev sav0 : Stmt := top 18
abbrev say0 : Stmt := top 19
abbrev sbg0 : Stmt := top 20
abbrev sba0 : Stmt := top 21
abbrev sbu0 : Stmt := top 22
abbrev sbi0 : Stmt := top 23
abbrev sbt0 : Stmt := top 24
abbrev sbq0 : Stmt := top 26
abbrev sbh0 : Stmt := top 27
abbrev sbw0 : Stmt := top 28
abbrev sbe0 : Stmt := top 29
abbrev sau0 : Stmt := top 30
abbrev sax0 : Stmt := top 31
abbrev sbv0 : Stmt := top 32
abbrev sbk0 : Stmt := top 33
abbrev sbl0 : Stmt := top 34
abbrev saz0 : Stmt := top 36
abbrev sbm0 : Stmt := top 37
abbrev sbn0 : Stmt := top 38
abbrev sat0 : Stmt := top 39
abbrev sbr0 : Stmt := top 40
abbrev sbb0 : Stmt := top 41
abbrev saw0 : Stmt := top 42
abbrev sad0 : Stmt := top 44
abbrev saq0 : Stmt := top 45
abbrev sai0 : Stmt := top 46
abbrev saj0 : Stmt := top 47
abbrev sam0 : Stmt := top 48
abbrev sao0 : Stmt := top 49
abbrev sae0 : Stmt := top 50
abbrev sag0 : Stmt := top 51
abbrev sap0 : Stmt := top 54
abbrev saa0 : Stmt := top 55
abbrev san0 : Stmt := top 56
abbrev sak0 : Stmt := top 59
abbrev sal0 : Stmt := top 60
abbrev sac0 : Stmt := top 61
abbrev saf0 : Stmt := top 62
abbrev sah0 : Stmt := top 63
abbrev sab0 : Stmt := top 64
abbrev sbc0 : Stmt := top 65
section
variable {P : Program} {w : World} {K : Q4} {mg : Str → Option Value} {base : Heap} {cm : Bool}
def spCell (K : Q4) : Sp := fun vs H Q _ => ∃ (a : Addr) (ns : List Int) (k : Nat), vs = [.ref a, .int k] ∧ SqL K H a (ns.map V.int) ∧ Q (.int (ns.getD k 0)) H
def spWhole : Sp := fun vs H Q _ => ∃ i : Int, vs = [.int i] ∧ Q (.bl true) H
def spLaw (K : Q4) : Sp := fun vs H Q _ => ∃ (a : Addr) (ns : List Int), vs = [.ref a] ∧ SqL K H a (ns.map V.int) ∧ ns.length ≤ 63 ∧ (∀ w ∈ ns, PySem.Builtin.Int.intBits w ≤ 2 ^ 20) ∧ ∀ H', Q (.bl true) H'
theorem Qac {H : Hp} {p : Addr} {o : HO} (h : H p = none) : Same H (upd H p o) := fun b o' hb => by
 rw [Qar (Qal hb h)]
 exact hb
theorem Qbo {H0 H : Hp} {p : Addr} {o : HO} (e : Same H0 H) (h : H0 p = none) : Same H0 (upd H p o) := fun b o' hb => by
 rw [Qar (Qal hb h)]
 exact e _ _ hb
theorem Qc4 {ws : List Int} {i : Nat} {x : V} (h : (ws.map V.int)[i]? = some x) : ∃ w, ws[i]? = some w ∧ x = .int w := by
 rw [List.getElem?_map] at h
 cases e : ws[i]? with
 | none => rw [e] at h; cases h
 | some z => rw [e] at h; exact ⟨z, rfl, (Option.some.inj h).symm⟩
theorem Qkh (ws : List Int) (lo hi : Option Int) : ∃ us : List Int, cutV (ws.map V.int) lo hi = us.map V.int ∧ us.length ≤ ws.length ∧ ∀ w ∈ us, w ∈ ws := by
 refine ⟨(ws.drop (HT.sIx ws.length 0 lo)).take (HT.sIx ws.length ws.length hi - HT.sIx ws.length 0 lo), ?_, ?_, fun w hw => List.mem_of_mem_drop (List.mem_of_mem_take hw)⟩
 ·unfold cutV
  rw [List.length_map, ← List.map_drop, ← List.map_take]
 ·rw [List.length_take, List.length_drop]
  omega
def spMix : Sp := fun vs H Q _ => ∃ c b : Int, vs = [.int c, .int b] ∧ b.natAbs ≤ 2 ^ 62 ∧ ∀ m : Int, 0 ≤ m → m < 2 ^ 31 → Q (.int m) H
def L26 : Str := "abcdefghijklmnopqrstuvwxyz"
theorem Qk5 {i : Int} (h0 : 0 ≤ i) (h1 : i < 26) : atI L26.cps.toList i = some (97 + i.toNat) := by
 obtain ⟨n, rfl⟩ := Int.eq_ofNat_of_zero_le h0
 have hn : n < 26 := by omega
 have all : ∀ n, n < 26 → L26.cps.toList[n]? = some (97 + n) := by decide+kernel
 exact Qbr (all n hn)
theorem Qic : L26.length ≤ sizeLine := by decide+kernel
theorem sq8 : ∀ i : Nat, i < 8 → 0 ≤ (0 + (i : Int)) * (0 + (i : Int)) ∧ (0 + (i : Int)) * (0 + (i : Int)) ≤ 49 := by decide
theorem Qbu {ws : List Str} {i : Nat} {x : V} (h : (ws.map V.str)[i]? = some x) : ∃ w, ws[i]? = some w ∧ x = .str w := by
 rw [List.getElem?_map] at h
 cases e : ws[i]? with
 | none => rw [e] at h; cases h
 | some z => rw [e] at h; exact ⟨z, rfl, (Option.some.inj h).symm⟩
theorem Qil {ws : List Int} {i : Int} (h0 : 0 ≤ i) (h1 : i < ws.length) : ∃ w ∈ ws, atI (ws.map V.int) i = some (.int w) := by
 obtain ⟨n, rfl⟩ := Int.eq_ofNat_of_zero_le h0
 have hn : n < ws.length := by omega
 exact ⟨ws[n], List.getElem_mem hn, Qbr (by rw [List.getElem?_map, List.getElem?_eq_getElem hn]; rfl)⟩
theorem Qeq (xs : List V) (t : Nat) : cutV xs (some (t : Int)) none = xs.drop (min t xs.length) := by
 unfold cutV
 rw [HT.sIx_nat, HT.sIx_none]
 exact List.take_of_length_le (by rw [List.length_drop]; omega)
theorem Qdb (xs : List V) (t : Nat) : cutV xs none (some (t : Int)) = xs.take (min t xs.length) := by
 unfold cutV
 rw [HT.sIx_nat, HT.sIx_none]
 simp
theorem Qmy {a b : Int} {n : Nat} (h : a.natAbs ≤ b.natAbs) (hb : PySem.Builtin.Int.intBits b ≤ n) : PySem.Builtin.Int.intBits a ≤ n := PyProof.Rows.bits_of_natAbs_le h hb
theorem Qmz {m : Int} (h0 : 0 ≤ m) (h1 : m < 2 ^ 31) : PySem.Builtin.Int.intBits m ≤ 2 ^ 20 := Nat.le_trans (intBits_le_64 (by omega) (by omega)) (by decide)
theorem bt_all : bootBuiltins "all" = some (.builtin "all") := by decide+kernel
theorem bt_min : bootBuiltins "min" = some (.builtin "min") := by decide+kernel
theorem Qha {X : Cx} {scope : Scope} {cl : List (Str × Addr)} {C : Addr} {s2 : Shared} {H2 : Hp} {fp : List Addr} {N' : List Str} {xe : Q0} : OpR (X.inC scope cl C s2 H2 fp N' xe) (compareOp .In) (rIn X.K false) := Qe4 (X := X.inC scope cl C s2 H2 fp N' xe)
theorem Qcc {X : Cx} {scope : Scope} {cl : List (Str × Addr)} {C : Addr} {s2 : Shared} {H2 : Hp} {fp : List Addr} {N' : List Str} {xe : Q0} : OpR (X.inC scope cl C s2 H2 fp N' xe) (compareOp .NotIn) (rIn X.K true) := Qb4 (X := X.inC scope cl C s2 H2 fp N' xe)
def sg (c : Nat) : Str := ⟨#[c]⟩
theorem Qji (x y : Str) : (x ++ y).cps.toList = x.cps.toList ++ y.cps.toList := by
 show (x.cps ++ y.cps).toList = _
 simp
theorem Qgy : ∀ ls : List Nat, (Str.join "" (ls.map sg)).cps.toList = ls
 | [] => rfl
 | [x] => rfl
 | x :: y :: r => by
   show (sg x ++ "" ++ Str.join "" ((y :: r).map sg)).cps.toList = _
   rw [Qji, Qji, Qgy (y :: r)]
   rfl
theorem Qhe (ls : List Nat) : (Txt.join "" (ls.map sg)).cps.toList = ls := by
 unfold Txt.join
 rw [StrLaws.glued_eq_join]
 exact Qgy ls
theorem Qkr {ls : List Nat} : ∀ z ∈ ls.map sg, z.length = 1 := fun z hz => by
 obtain ⟨c, _, rfl⟩ := List.mem_map.mp hz
 rfl
def atN (c : Int) : Nat := (c % 999983 / 24 % (1 + c % 999983 / 3 % 8)).toNat
def Dn (c : Int) (bs : List Int) (i : Nat) (x : Str) : Prop :=
 if c % 999983 % 3 = 1 then x.cps.toList.length = i + 1 else x.cps.toList[atN c]? = some (97 + ((bs.getD (atN c) 0 + (i : Int)) % 26).toNat)
theorem Qld {c : Int} {bs : List Int} {xs : List Str} {y : Str} (h : ∀ j x, xs[j]? = some x → Dn c bs j x) (hy : Dn c bs xs.length y) : ∀ j x, (xs ++ [y])[j]? = some x → Dn c bs j x := fun j x e => by
 rcases Nat.lt_trichotomy j xs.length with l | l | l
 ·rw [List.getElem?_append_left l] at e
  exact h j x e
 ·subst l
  rw [List.getElem?_append_right (Nat.le_refl _), Nat.sub_self] at e
  cases e
  exact hy
 ·rw [List.getElem?_eq_none (by rw [List.length_append]; show xs.length + 1 ≤ j; omega)] at e
  cases e
theorem Qkf {c : Int} {bs : List Int} {xs : List Str} (hl : xs.length ≤ 8) (h : ∀ j x, xs[j]? = some x → Dn c bs j x) : xs.Nodup := by
 refine List.pairwise_iff_getElem.mpr fun i j hi hj hij e => ?_
 have a := h i xs[i] (List.getElem?_eq_getElem hi)
 have b := h j xs[j] (List.getElem?_eq_getElem hj)
 rw [← e] at b
 unfold Dn at a b
 split at a
 ·rename_i z
  rw [if_pos z] at b
  omega
 ·rename_i z
  rw [if_neg z] at b
  rw [a] at b
  have := Option.some.inj b
  omega
theorem Qlg (ws : List Str) (t : Nat) (hn : ws.Nodup) : ∃ us : List Str, cutV (ws.map V.str) (some (t : Int)) none ++ cutV (ws.map V.str) none (some (t : Int)) = us.map V.str ∧ us.length = ws.length ∧ us.Nodup ∧ ∀ w, w ∈ us ↔ w ∈ ws := by
 refine ⟨ws.drop (min t ws.length) ++ ws.take (min t ws.length), ?_, ?_, ?_, fun w => ?_⟩
 ·rw [Qeq, Qdb, List.length_map, List.map_append, List.map_drop, List.map_take]
 ·rw [List.length_append, List.length_drop, List.length_take]
  omega
 ·have p : (ws.drop (min t ws.length) ++ ws.take (min t ws.length)).Perm ws := by
   have := List.perm_append_comm (l₁ := ws.drop (min t ws.length)) (l₂ := ws.take (min t ws.length))
   rw [List.take_append_drop] at this
   exact this
  exact p.nodup_iff.mpr hn
 ·have p : (ws.drop (min t ws.length) ++ ws.take (min t ws.length)).Perm ws := by
   have := List.perm_append_comm (l₁ := ws.drop (min t ws.length)) (l₂ := ws.take (min t ws.length))
   rw [List.take_append_drop] at this
   exact this
  exact p.mem_iff
def spNd : Sp := fun vs H Q _ => ∃ (c : Int) (m : Nat), vs = [.int c, .int m] ∧ 1 ≤ m ∧ m ≤ 8 ∧ ∀ l (xs : List Str) H', Same H H' → H' l = some (.lst (xs.map V.str)) → xs.length = m → xs.Nodup → Q (.ref l) H'
theorem Qdp {ws : List Str} {i : Int} (h0 : 0 ≤ i) (h1 : i < ws.length) : ∃ w ∈ ws, atI (ws.map V.str) i = some (.str w) := by
 obtain ⟨n, rfl⟩ := Int.eq_ofNat_of_zero_le h0
 have hn : n < ws.length := by omega
 exact ⟨ws[n], List.getElem_mem hn, Qbr (by rw [List.getElem?_map, List.getElem?_eq_getElem hn]; rfl)⟩
theorem Qjg {ws : List Int} {n : Nat} (hn : n < ws.length) : atI (ws.map V.int) ((n : Nat) : Int) = some (.int (ws.getD n 0)) := Qbr (by rw [List.getElem?_map, List.getElem?_eq_getElem hn]; simp [List.getD, hn])
abbrev Rw := Addr × Str × Str × Int
def tup3 (z : Rw) : HO := .tup [.str z.2.1, .str z.2.2.1, .int z.2.2.2]
def rfw (L : List Rw) : List V := L.map fun z => .ref z.1
theorem Qbc (L : List Rw) : (rfw L).length = L.length := List.length_map ..
theorem Qek (A B : List Rw) : rfw (A ++ B) = rfw A ++ rfw B := List.map_append ..
theorem Qcv {L : List Rw} {i : Nat} {x : V} (h : (rfw L)[i]? = some x) : ∃ z, L[i]? = some z ∧ x = .ref z.1 := by
 unfold rfw at h
 rw [List.getElem?_map] at h
 cases e : L[i]? with
 | none => rw [e] at h; cases h
 | some z => rw [e] at h; exact ⟨z, rfl, (Option.some.inj h).symm⟩
theorem rfw_pl (L : List Rw) : ∀ z ∈ rfw L, eqPl z = true := by
 intro z hz
 obtain ⟨y, _, rfl⟩ := List.mem_map.mp hz
 rfl
theorem Qlv (L : List Rw) (k : Nat) (z : Rw) : (rfw L).take k ++ .ref z.1 :: (rfw L).drop k = rfw (L.take k ++ z :: L.drop k) := by
 unfold rfw
 rw [List.map_append, List.map_cons, List.map_take, List.map_drop]
theorem Qlp (ws : List Str) : ∀ z ∈ ws.map V.str, eqPl z = true := by
 intro z hz
 obtain ⟨y, _, rfl⟩ := List.mem_map.mp hz
 rfl
theorem Qb3 (c : Str) : ∀ ws : List Str, inV (.str c) (ws.map V.str) = decide (c ∈ ws)
 | [] => rfl
 | d :: ws => by
   have ih := Qb3 c ws
   unfold inV at ih ⊢
   rw [List.map_cons, List.any_cons, ih]
   show (eqV (.str d) (.str c) || decide (c ∈ ws)) = decide (c ∈ d :: ws)
   by_cases h : d = c
   ·subst h
    simp [eqV]
   ·simp [eqV, h, Ne.symm h]
theorem Qb2 (ws : List Str) : (ws.map V.str).all flatV = true := by
 rw [List.all_eq_true]
 intro z hz
 obtain ⟨y, _, rfl⟩ := List.mem_map.mp hz
 rfl
theorem Qaw {α : Type} {L : List α} {i : Nat} {z : α} (h : L[i]? = some z) : L.take (i + 1) = L.take i ++ [z] := by
 rw [List.take_succ, h]
 rfl
theorem Qbn {H : Hp} {p : Addr} {xs ys : List V} {z : Addr} {o : List V} (h : H z = some (.tup o)) (hp : H p = some (.lst xs)) : upd H p (.lst ys) z = some (.tup o) := by
 rw [Qar (Ql1 h hp (by intro z; cases z))]
 exact h
def RW (H : Hp) (fs es : List Str) (R : List Rw) : Prop := ∀ z ∈ R, H z.1 = some (tup3 z) ∧ z.2.1 ∈ es ∧ z.2.2.1 ∈ fs ∧ 1 ≤ z.2.2.2 ∧ z.2.2.2 ≤ 1000000
theorem RW.same {H H' : Hp} {fs es : List Str} {R : List Rw} (h : RW H fs es R) (e : Same H H') : RW H' fs es R := fun z hz => ⟨e _ _ (h z hz).1, (h z hz).2⟩
def hpB (h f : Str) (z : Rw) : Bool := decide (z.2.1 = h) && decide (z.2.2.1 = f)
def afB (f : Str) (z : Rw) : Bool := decide (z.2.2.1 = f)
def held (R : List Rw) (h f : Str) : Int := ((R.filter (hpB h f)).map (·.2.2.2)).sum
def alls (R : List Rw) (f : Str) : Int := ((R.filter (afB f)).map (·.2.2.2)).sum
def dueR (fs : List Str) (R : List Rw) (f : Str) : List Int := fs.map fun h => (if h = f then alls R f else 0) - held R h f
theorem Qda (z : Rw) (R : List Rw) (h f : Str) : held (z :: R) h f = (if z.2.1 = h then (if z.2.2.1 = f then z.2.2.2 else 0) else 0) + held R h f := by
 unfold held
 by_cases a : z.2.1 = h
 ·by_cases b : z.2.2.1 = f
  ·rw [List.filter_cons_of_pos (by simp [hpB, a, b]), List.map_cons, List.sum_cons, if_pos a, if_pos b]
  ·rw [List.filter_cons_of_neg (by simp [hpB, b]), if_pos a, if_neg b, Int.zero_add]
 ·rw [List.filter_cons_of_neg (by simp [hpB, a]), if_neg a, Int.zero_add]
theorem Qd2 (z : Rw) (R : List Rw) (f : Str) : alls (z :: R) f = (if z.2.2.1 = f then z.2.2.2 else 0) + alls R f := by
 unfold alls
 by_cases b : z.2.2.1 = f
 ·rw [List.filter_cons_of_pos (by simp [afB, b]), List.map_cons, List.sum_cons, if_pos b]
 ·rw [List.filter_cons_of_neg (by simp [afB, b]), if_neg b, Int.zero_add]
theorem Qio {a : Str} (x : Int) : ∀ {ns : List Str}, a ∉ ns → (ns.map fun h => if a = h then x else 0).sum = 0
 | [], _ => rfl
 | n :: r, h => by
   rw [List.map_cons, List.sum_cons, if_neg (fun e => h (by rw [e]; exact List.mem_cons_self)), Qio x fun m => h (List.mem_cons_of_mem _ m)]
   rfl
theorem Qin {a : Str} (x : Int) : ∀ {ns : List Str}, ns.Nodup → a ∈ ns → (ns.map fun h => if a = h then x else 0).sum = x
 | [], _, h => nomatch h
 | n :: r, hn, h => by
   rw [List.map_cons, List.sum_cons]
   obtain ⟨h1, h2⟩ := List.nodup_cons.mp hn
   by_cases e : a = n
   ·subst e
    rw [if_pos rfl, Qio x h1, Int.add_zero]
   ·rw [if_neg e, Qin x h2 ((List.mem_cons.mp h).resolve_left e), Int.zero_add]
theorem Qhl (f g : Str → Int) : ∀ ns : List Str, (ns.map fun h => f h + g h).sum = (ns.map f).sum + (ns.map g).sum
 | [] => rfl
 | n :: r => by
   simp only [List.map_cons, List.sum_cons]
   rw [Qhl f g r]
   omega
theorem Qhk (f g : Str → Int) : ∀ ns : List Str, (ns.map fun h => f h - g h).sum = (ns.map f).sum - (ns.map g).sum
 | [] => rfl
 | n :: r => by
   simp only [List.map_cons, List.sum_cons]
   rw [Qhk f g r]
   omega
theorem Qef : ∀ ns : List Str, (ns.map fun _ => (0 : Int)).sum = 0
 | [] => rfl
 | n :: r => by
   rw [List.map_cons, List.sum_cons, Qef r]
   rfl
theorem Qmp {fs : List Str} {R : List Rw} {f : Str} {i : Nat} (hn : fs.Nodup) (hf : fs[i]? = some f) : (fs.map fun h => -held R h f).set i ((fs.map fun h => -held R h f).getD i 0 + alls R f) = dueR fs R f := by
 obtain ⟨hi, he⟩ := List.getElem?_eq_some_iff.mp hf
 unfold dueR
 refine List.ext_getElem (by simp) fun j h1 h2 => ?_
 rw [List.getElem_set]
 by_cases e : i = j
 ·subst e
  rw [if_pos rfl, List.getElem_map, he, if_pos rfl, List.getD, List.getElem?_map, hf]
  show -held R f f + alls R f = _
  omega
 ·rw [if_neg e, List.getElem_map, List.getElem_map]
  have hj : j < fs.length := by simpa using h2
  have ne : ¬ fs[j] = f := fun z => e ((List.getElem_inj hn).mp (he.trans z.symm))
  rw [if_neg ne]
  omega
def RX (H : Hp) (gs es : List Str) (R : List Rw) : Prop := ∀ z ∈ R, H z.1 = some (tup3 z) ∧ True
theorem RX.same {H H' : Hp} {gs es : List Str} {R : List Rw} (h : RX H gs es R) (e : Same H H') : RX H' gs es R := fun z hz => ⟨e _ _ (h z hz).1, trivial⟩
theorem RW.x {H : Hp} {fs es gs hs : List Str} {R : List Rw} (h : RW H fs es R) : RX H gs hs R := fun z hz => ⟨(h z hz).1, trivial⟩
def spHeld : Sp := fun vs H Q _ => ∃ (l : Addr) (R : List Rw) (h f : Str) (fs es : List Str), vs = [.ref l, .str h, .str f] ∧ H l = some (.lst (rfw R)) ∧ RX H fs es R ∧ R.length ≤ 100 ∧ ∀ H', Same H H' → Q (.int (held R h f)) H'
def spAll : Sp := fun vs H Q _ => ∃ (l : Addr) (R : List Rw) (f : Str) (fs es : List Str), vs = [.ref l, .str f] ∧ H l = some (.lst (rfw R)) ∧ RX H fs es R ∧ R.length ≤ 100 ∧ ∀ H', Same H H' → Q (.int (alls R f)) H'
def spShares : Sp := fun vs H Q _ => ∃ c : Int, vs = [.int c] ∧ PySem.Builtin.Int.intBits c ≤ 2 ^ 20 ∧ ∀ m : Int, 1 ≤ m → m ≤ 1000000 → Q (.int m) H
theorem Ql3 {c : Int} (h : PySem.Builtin.Int.intBits c ≤ 2 ^ 20) : PySem.IntMulOk (c / 2) 7919 :=
 PySem.IntMulOk.of_le (m := 2 ^ 20) (n := 200) (Qmy (by omega) h) (by decide+kernel) (by decide)
structure Pp (H : Hp) (fl sl : Addr) (fs ss : List Str) : Prop where
 f : H fl = some (.lst (fs.map V.str))
 s : H sl = some (.lst (ss.map V.str))
 lf : 1 ≤ fs.length
 lf8 : fs.length ≤ 6
 ls : 1 ≤ ss.length
 ls8 : ss.length ≤ 3
 nd : (fs ++ ss).Nodup
 l8 : fs.length + ss.length ≤ 8
theorem Pp.same {H H' : Hp} {fl sl : Addr} {fs ss : List Str} (P : Pp H fl sl fs ss) (e : Same H H') : Pp H' fl sl fs ss := ⟨e _ _ P.f, e _ _ P.s, P.lf, P.lf8, P.ls, P.ls8, P.nd, P.l8⟩
def spPeople (K : Q4) : Sp := fun vs H Q _ => ∃ (a : Addr) (ns : List Int), vs = [.ref a] ∧ SqL K H a (ns.map V.int) ∧ ∀ (p fl sl : Addr) (fs ss : List Str) H', Same H H' → H' p = some (.tup [.ref fl, .ref sl]) → Pp H' fl sl fs ss → Q (.ref p) H'
def Rk (fs : List Str) (R : List Rw) : Prop := ∃ rank : Str → Nat, ∀ f ∈ fs, ∃ z ∈ R, z.2.2.1 = f ∧ (z.2.1 ∉ fs ∨ rank z.2.1 < rank f)
theorem Rk.sub {fs : List Str} {R R' : List Rw} (h : Rk fs R) (hs : ∀ z ∈ R, z ∈ R') : Rk fs R' := by
 obtain ⟨r, hr⟩ := h
 exact ⟨r, fun f hf => let ⟨z, hz, q⟩ := hr f hf; ⟨z, hs z hz, q⟩⟩
theorem rk_of {fs us : List Str} {R : List Rw} (hn : us.Nodup) (hm : ∀ f ∈ fs, f ∈ us) (h : ∀ j, j < us.length → ∀ f, us[j]? = some f → ∃ z ∈ R, z.2.2.1 = f ∧ (z.2.1 ∉ fs ∨ ∃ j2, j2 < j ∧ us[j2]? = some z.2.1)) : Rk fs R := by
 refine ⟨fun x => us.idxOf x, fun f hf => ?_⟩
 have hj := List.idxOf_lt_length_of_mem (hm f hf)
 have hg : us[us.idxOf f]? = some f := by
  rw [List.getElem?_eq_getElem hj, List.getElem_idxOf hj]
 obtain ⟨z, hz, q1, q2⟩ := h _ hj f hg
 refine ⟨z, hz, q1, q2.imp id fun ⟨j2, h2, h3⟩ => ?_⟩
 obtain ⟨hj2, e2⟩ := List.getElem?_eq_some_iff.mp h3
 have : us.idxOf z.2.1 = j2 := by
  rw [← e2]
  exact hn.idxOf_getElem j2 hj2
 show us.idxOf z.2.1 < us.idxOf f
 omega
theorem Qkn {ws : List Str} {i : Int} (h0 : 0 ≤ i) (h1 : i < ws.length) : ∃ (w : Str) (j : Nat), ws[j]? = some w ∧ (j : Int) = i ∧ atI (ws.map V.str) i = some (.str w) := by
 obtain ⟨n, rfl⟩ := Int.eq_ofNat_of_zero_le h0
 have hn : n < ws.length := by omega
 exact ⟨ws[n], n, List.getElem?_eq_getElem hn, rfl, Qbr (by rw [List.getElem?_map, List.getElem?_eq_getElem hn]; rfl)⟩
theorem Qmd {α : Type} {R : List α} {k : Nat} {y z : α} (h : z ∈ R) : z ∈ R.take k ++ y :: R.drop k := by
 rw [← List.take_append_drop k R] at h
 rcases List.mem_append.mp h with c | c
 ·exact List.mem_append_left _ c
 ·exact List.mem_append_right _ (List.mem_cons_of_mem _ c)
def spGood (K : Q4) : Sp := fun vs H Q _ => ∃ (a fl sl : Addr) (ns : List Int) (fs ss : List Str), vs = [.ref a, .ref fl, .ref sl] ∧ SqL K H a (ns.map V.int) ∧ ns.length ≤ 63 ∧ (∀ w ∈ ns, PySem.Builtin.Int.intBits w ≤ 2 ^ 20) ∧ Pp H fl sl fs ss ∧
 ∀ (p : Addr) (R : List Rw) H', Same H H' → H p = none → H' p = some (.lst (rfw R)) → RW H' fs (fs ++ ss) R → Rk fs R → R.length ≤ 40 → Q (.ref p) H'
theorem scbp0 : FnScope ["rows", "holder", "firm"] ["rows", "holder", "firm"] (defScope sbp0) := fsc
theorem okbp0 (D : Def K mg "shares_of" sbp0 .none) (z_sum : mg "sum" = none) : Cal P w K mg base CX0 true 1 "shares_of" ["rows", "holder", "firm"] [] spHeld := by
 obtain ⟨f, fd, F, hm⟩ := D
 refine ⟨f, fd, _, F.ok scbp0 (fun vs H Q E h => ?_) (fun cdv A outer s H vs Q E hr h => ?_), hm, F.kp, (F.b3), .nil, F.b3⟩
 ·obtain ⟨l, R, h, f, fs, es, rfl, hl, hR, hlen, q⟩ := h
  rfl
 obtain ⟨l, R, h, f, fs, es, rfl, hl, hR, hlen, q⟩ := h
 have nd := scbp0.nd
 refine ⟨_, (Qag (Qat (Qao (Qct hr) rfl z_sum Qed (Qaa (Qck [1, 2] rfl (LcOk.free ["holder", "firm"] rfl rfl (List.forall_mem_cons.mpr ⟨rfl, (List.forall_mem_cons.mpr ⟨rfl, (fun _ h => nomatch h)⟩)⟩) (by decide+kernel) rfl (by decide+kernel) rfl (by decide+kernel) (show (["row", "holder", "firm"] : List Str).Nodup from by decide+kernel) (List.forall_mem_cons.mpr ⟨⟨_, rfl, rfl, rfl, by decide+kernel⟩, (List.forall_mem_cons.mpr ⟨⟨_, rfl, rfl, rfl, by decide+kernel⟩, (fun _ h => nomatch h)⟩)⟩)) (Qax (pv 0)) (fun C s2 H2 fp xe => (PW.pt (Qgm (Qap Qb7 (Qam Qa0 (pv 0) Qaf (fun _ _ => rfl)) (pv 1) (nomark _)) (Qel (Qap Qb7 (Qam Qa0 (pv 0) Qaf (fun _ _ => rfl)) (pv 2) (nomark _)))))) (fun C s2 H2 fp xe => (Qam Qa0 (pv 0) Qaf (fun _ _ => rfl)))) Qad)))), ?_⟩
 have hline : 10 ^ 6 ≤ sizeLine := by decide
 refine ⟨_, rfl, l, rfl, ⟨_, SqL.of hl⟩, ?_⟩
 refine Qbj (xs := rfw R) (fun j ys H5 => ys = (((R.take j).filter (hpB h f)).map (·.2.2.2)).map V.int ∧ H5 = H) ⟨rfl, rfl⟩ (by rw [Qbc]; omega) ?_ ?_ ?_
 ·rintro j ys H5 hj ⟨rfl, rfl⟩
  refine ⟨SqL.of hl, ?_⟩
  rw [List.length_map, List.length_map]
  have h1 := List.length_filter_le (hpB h f) (R.take j)
  rw [List.length_take] at h1
  omega
 ·rintro j x ys H5 hx ⟨rfl, rfl⟩
  obtain ⟨y, hy, rfl⟩ := Qcv hx
  have hTy := SqT.of (K := K) (hR y (List.mem_of_getElem? hy)).1
  refine ⟨_, rfl, .inr (.inl ⟨y.1, _, 0, _, rfl, rfl, hTy, rfl, _, rfl, rfl, _, rfl, ?_⟩)⟩
  refine dec2 (fun h1 => ?_) (fun h1 => ?_)
  ·refine ⟨_, rfl, .inr (.inl ⟨y.1, _, 1, _, rfl, rfl, hTy, rfl, _, rfl, rfl, _, rfl, ?_⟩)⟩
   refine dec2 (fun h2 => ?_) (fun h2 => ?_)
   ·refine ⟨_, rfl, .inr (.inl ⟨y.1, _, 2, _, rfl, rfl, hTy, rfl, ?_, rfl⟩)⟩
    rw [Qaw hy, List.filter_append, List.filter_cons_of_pos (by simp [hpB, V.str.inj h1, V.str.inj h2]), List.map_append, List.map_append]
    rfl
   ·refine ⟨?_, rfl⟩
    have n : ¬ y.2.2.1 = f := fun z => h2 (congrArg V.str z)
    rw [Qaw hy, List.filter_append, List.filter_cons_of_neg (by simp [hpB, n])]
    simp
  ·refine iteF ⟨?_, rfl⟩
   have n : ¬ y.2.1 = h := fun z => h1 (congrArg V.str z)
   rw [Qaw hy, List.filter_append, List.filter_cons_of_neg (by simp [hpB, n])]
   simp
 rintro ys H5 ⟨rfl, rfl⟩ k1 hk1
 rw [Qbc, List.take_length]
 exact ⟨k1, _, rfl, SqL.of Qab, q _ (Qac hk1)⟩
theorem scar0 : FnScope ["rows", "firm"] ["rows", "firm"] (defScope sar0) := fsc
theorem okar0 (D : Def K mg "all_shares" sar0 .none) (z_sum : mg "sum" = none) : Cal P w K mg base CX0 true 1 "all_shares" ["rows", "firm"] [] spAll := by
 obtain ⟨f, fd, F, hm⟩ := D
 refine ⟨f, fd, _, F.ok scar0 (fun vs H Q E h => ?_) (fun cdv A outer s H vs Q E hr h => ?_), hm, F.kp, (F.b2), .nil, F.b2⟩
 ·obtain ⟨l, R, f, fs, es, rfl, hl, hR, hlen, q⟩ := h
  rfl
 obtain ⟨l, R, f, fs, es, rfl, hl, hR, hlen, q⟩ := h
 have nd := scar0.nd
 refine ⟨_, (Qag (Qat (Qao (Qct hr) rfl z_sum Qed (Qaa (Qck [1] rfl (LcOk.free ["firm"] rfl rfl (List.forall_mem_cons.mpr ⟨rfl, (fun _ h => nomatch h)⟩) (by decide+kernel) rfl (by decide+kernel) rfl (by decide+kernel) (show (["row", "firm"] : List Str).Nodup from by decide+kernel) (List.forall_mem_cons.mpr ⟨⟨_, rfl, rfl, rfl, by decide+kernel⟩, (fun _ h => nomatch h)⟩)) (Qax (pv 0)) (fun C s2 H2 fp xe => (Qap Qb7 (Qam Qa0 (pv 0) Qaf (fun _ _ => rfl)) (pv 1) (nomark _))) (fun C s2 H2 fp xe => (Qam Qa0 (pv 0) Qaf (fun _ _ => rfl)))) Qad)))), ?_⟩
 have hline : 10 ^ 6 ≤ sizeLine := by decide
 refine ⟨_, rfl, l, rfl, ⟨_, SqL.of hl⟩, ?_⟩
 refine Qbj (xs := rfw R) (fun j ys H5 => ys = (((R.take j).filter (afB f)).map (·.2.2.2)).map V.int ∧ H5 = H) ⟨rfl, rfl⟩ (by rw [Qbc]; omega) ?_ ?_ ?_
 ·rintro j ys H5 hj ⟨rfl, rfl⟩
  refine ⟨SqL.of hl, ?_⟩
  rw [List.length_map, List.length_map]
  have h1 := List.length_filter_le (afB f) (R.take j)
  rw [List.length_take] at h1
  omega
 ·rintro j x ys H5 hx ⟨rfl, rfl⟩
  obtain ⟨y, hy, rfl⟩ := Qcv hx
  have hTy := SqT.of (K := K) (hR y (List.mem_of_getElem? hy)).1
  refine ⟨_, rfl, .inr (.inl ⟨y.1, _, 1, _, rfl, rfl, hTy, rfl, _, rfl, rfl, _, rfl, ?_⟩)⟩
  refine dec2 (fun h2 => ?_) (fun h2 => ?_)
  ·refine ⟨_, rfl, .inr (.inl ⟨y.1, _, 2, _, rfl, rfl, hTy, rfl, ?_, rfl⟩)⟩
   rw [Qaw hy, List.filter_append, List.filter_cons_of_pos (by simp [afB, V.str.inj h2]), List.map_append, List.map_append]
   rfl
  ·refine ⟨?_, rfl⟩
   have n : ¬ y.2.2.1 = f := fun z => h2 (congrArg V.str z)
   rw [Qaw hy, List.filter_append, List.filter_cons_of_neg (by simp [afB, n])]
   simp
 rintro ys H5 ⟨rfl, rfl⟩ k1 hk1
 rw [Qbc, List.take_length]
 exact ⟨k1, _, rfl, SqL.of Qab, q _ (Qac hk1)⟩
def spOwn : Sp := fun vs H Q _ => ∃ (l : Addr) (R : List Rw) (f : Str) (fs es : List Str), vs = [.ref l, .str f] ∧ H l = some (.lst (rfw R)) ∧ RX H fs es R ∧ R.length ≤ 62 ∧
 ∀ (p : Addr) (zs : List Str) H', Same H H' → H p = none → H' p = some (.lst (zs.map V.str)) → (∀ x, x ∈ zs ↔ ∃ z ∈ R, z.2.2.1 = f ∧ z.2.1 = x) → zs.Pairwise (fun a b => ltS a b = true) → Q (.ref p) H'
def spStrg : Sp := fun vs H Q _ => ∃ (fl l : Addr) (gs : List Str) (R : List Rw) (fs es : List Str), vs = [.ref fl, .ref l] ∧ H fl = some (.lst (gs.map V.str)) ∧ H l = some (.lst (rfw R)) ∧ RX H fs es R ∧ R.length ≤ 62 ∧
 ∀ (p : Addr) (zs : List Str) H', Same H H' → H p = none → H' p = some (.lst (zs.map V.str)) → (∀ x, x ∈ zs ↔ x ∉ gs ∧ ∃ z ∈ R, z.2.1 = x) → zs.Pairwise (fun a b => ltS a b = true) → Q (.ref p) H'
theorem scbj0 : FnScope ["rows", "firm"] ["rows", "firm"] (defScope sbj0) := fsc
theorem okbj0 (D : Def K mg "owners_of" sbj0 .none) (z_sorted : mg "sorted" = none) (z_set : mg "set" = none) : Cal P w K mg base CX0 true 1 "owners_of" ["rows", "firm"] [] spOwn := by
 obtain ⟨f, fd, F, hm⟩ := D
 refine ⟨f, fd, _, F.ok scbj0 (fun vs H Q E h => ?_) (fun cdv A outer s H vs Q E hr h => ?_), hm, F.kp, (F.b2), .nil, F.b2⟩
 ·obtain ⟨l, R, f, fs, es, rfl, hl, hR, hlen, q⟩ := h
  rfl
 obtain ⟨l, R, f, fs, es, rfl, hl, hR, hlen, q⟩ := h
 have nd := scbj0.nd
 refine ⟨_, (Qag (Qat (Qd6 rfl rfl z_sorted rfl z_set (Qaa (Qck [1] rfl (LcOk.free ["firm"] rfl rfl (List.forall_mem_cons.mpr ⟨rfl, (fun _ h => nomatch h)⟩) (by decide+kernel) rfl (by decide+kernel) rfl (by decide+kernel) (show (["row", "firm"] : List Str).Nodup from by decide+kernel) (List.forall_mem_cons.mpr ⟨⟨_, rfl, rfl, rfl, by decide+kernel⟩, (fun _ h => nomatch h)⟩)) (Qax (pv 0)) (fun C s2 H2 fp xe => (Qap Qb7 (Qam Qa0 (pv 0) Qaf (fun _ _ => rfl)) (pv 1) (nomark _))) (fun C s2 H2 fp xe => (Qam Qa0 (pv 0) Qaf (fun _ _ => rfl)))) Qad)))), ?_⟩
 have hline : 10 ^ 6 ≤ sizeLine := by decide
 refine ⟨_, rfl, l, rfl, ⟨_, SqL.of hl⟩, ?_⟩
 refine Qbj (xs := rfw R) (fun j ys H5 => ys = (((R.take j).filter (afB f)).map (·.2.1)).map V.str ∧ H5 = H) ⟨rfl, rfl⟩ (by rw [Qbc]; omega) ?_ ?_ ?_
 ·rintro j ys H5 hj ⟨rfl, rfl⟩
  refine ⟨SqL.of hl, ?_⟩
  rw [List.length_map, List.length_map]
  have h1 := List.length_filter_le (afB f) (R.take j)
  rw [List.length_take] at h1
  omega
 ·rintro j x ys H5 hx ⟨rfl, rfl⟩
  obtain ⟨y, hy, rfl⟩ := Qcv hx
  have hTy := SqT.of (K := K) (hR y (List.mem_of_getElem? hy)).1
  refine ⟨_, rfl, .inr (.inl ⟨y.1, _, 1, _, rfl, rfl, hTy, rfl, _, rfl, rfl, _, rfl, ?_⟩)⟩
  refine dec2 (fun h2 => ?_) (fun h2 => ?_)
  ·refine ⟨_, rfl, .inr (.inl ⟨y.1, _, 0, _, rfl, rfl, hTy, rfl, ?_, rfl⟩)⟩
   rw [Qaw hy, List.filter_append, List.filter_cons_of_pos (by simp [afB, V.str.inj h2]), List.map_append, List.map_append]
   rfl
  ·refine ⟨?_, rfl⟩
   have n : ¬ y.2.2.1 = f := fun z => h2 (congrArg V.str z)
   rw [Qaw hy, List.filter_append, List.filter_cons_of_neg (by simp [afB, n])]
   simp
 rintro ys H5 ⟨rfl, rfl⟩ k1 hk1
 rw [Qbc, List.take_length]
 have s1 := Qac (o := .lst (((R.filter (afB f)).map (·.2.1)).map V.str)) hk1
 refine ⟨k1, _, rfl, SqL.of Qab, ?_, fun p zs hp nd mm pw => ?_⟩
 ·rw [List.length_map]
  have h1 := List.length_filter_le (afB f) R
  omega
 refine q p zs _ (s1.trans (Qac hp)) (s1.free hp) Qab (fun x => ?_) pw
 rw [mm x, List.mem_map]
 constructor
 ·rintro ⟨z, hz, e⟩
  obtain ⟨h1, h2⟩ := List.mem_filter.mp hz
  exact ⟨z, h1, of_decide_eq_true h2, e⟩
 ·rintro ⟨z, h1, h2, e⟩
  exact ⟨z, List.mem_filter.mpr ⟨h1, decide_eq_true h2⟩, e⟩
theorem scbs0 : FnScope ["firms", "rows"] ["firms", "rows"] (defScope sbs0) := fsc
theorem okbs0 (D : Def K mg "strangers_of" sbs0 .none) (z_sorted : mg "sorted" = none) (z_set : mg "set" = none) : Cal P w K mg base CX0 true 1 "strangers_of" ["firms", "rows"] [] spStrg := by
 obtain ⟨f, fd, F, hm⟩ := D
 refine ⟨f, fd, _, F.ok scbs0 (fun vs H Q E h => ?_) (fun cdv A outer s H vs Q E hr h => ?_), hm, F.kp, (F.b2), .nil, F.b2⟩
 ·obtain ⟨fl, l, gs, R, fs, es, rfl, hfl, hl, hR, hlen, q⟩ := h
  rfl
 obtain ⟨fl, l, gs, R, fs, es, rfl, hfl, hl, hR, hlen, q⟩ := h
 have nd := scbs0.nd
 refine ⟨_, (Qag (Qat (Qd6 rfl rfl z_sorted rfl z_set (Qaa (Qck [0] rfl (LcOk.free ["firms"] rfl rfl (List.forall_mem_cons.mpr ⟨rfl, (fun _ h => nomatch h)⟩) (by decide+kernel) rfl (by decide+kernel) rfl (by decide+kernel) (show (["row", "firms"] : List Str).Nodup from by decide+kernel) (List.forall_mem_cons.mpr ⟨⟨_, rfl, rfl, rfl, by decide+kernel⟩, (fun _ h => nomatch h)⟩)) (Qax (pv 1)) (fun C s2 H2 fp xe => (Qap Qcc (Qam Qa0 (pv 0) Qaf (fun _ _ => rfl)) (pv 1) (by with_unfolding_all rfl))) (fun C s2 H2 fp xe => (Qam Qa0 (pv 0) Qaf (fun _ _ => rfl)))) Qad)))), ?_⟩
 have hline : 10 ^ 6 ≤ sizeLine := by decide
 refine ⟨_, rfl, l, rfl, ⟨_, SqL.of hl⟩, ?_⟩
 refine Qbj (xs := rfw R) (fun j ys H5 => ys = (((R.take j).filter (fun z => !decide (z.2.1 ∈ gs))).map (·.2.1)).map V.str ∧ H5 = H) ⟨rfl, rfl⟩ (by rw [Qbc]; omega) ?_ ?_ ?_
 ·rintro j ys H5 hj ⟨rfl, rfl⟩
  refine ⟨SqL.of hl, ?_⟩
  rw [List.length_map, List.length_map]
  have h1 := List.length_filter_le (fun z => !decide (z.2.1 ∈ gs)) (R.take j)
  rw [List.length_take] at h1
  omega
 ·rintro j x ys H5 hx ⟨rfl, rfl⟩
  obtain ⟨y, hy, rfl⟩ := Qcv hx
  have hTy := SqT.of (K := K) (hR y (List.mem_of_getElem? hy)).1
  refine ⟨_, rfl, .inr (.inl ⟨y.1, _, 0, _, rfl, rfl, hTy, rfl, _, rfl, fl, _, rfl, .inl (SqL.of hfl), rfl, Qb2 _, _, rfl, ?_⟩)⟩
  rw [Qb3]
  refine ndec2 (fun h2 => ?_) (fun h2 => ?_)
  ·refine ⟨_, rfl, .inr (.inl ⟨y.1, _, 0, _, rfl, rfl, hTy, rfl, ?_, rfl⟩)⟩
   rw [Qaw hy, List.filter_append, List.filter_cons_of_pos (by simp [h2]), List.map_append, List.map_append]
   rfl
  ·refine ⟨?_, rfl⟩
   rw [Qaw hy, List.filter_append, List.filter_cons_of_neg (by simp [h2])]
   simp
 rintro ys H5 ⟨rfl, rfl⟩ k1 hk1
 rw [Qbc, List.take_length]
 have s1 := Qac (o := .lst (((R.filter (fun z => !decide (z.2.1 ∈ gs))).map (·.2.1)).map V.str)) hk1
 refine ⟨k1, _, rfl, SqL.of Qab, ?_, fun p zs hp nd mm pw => ?_⟩
 ·rw [List.length_map]
  have h1 := List.length_filter_le (fun z => !decide (z.2.1 ∈ gs)) R
  omega
 refine q p zs _ (s1.trans (Qac hp)) (s1.free hp) Qab (fun x => ?_) pw
 rw [mm x, List.mem_map]
 constructor
 ·rintro ⟨z, hz, e⟩
  obtain ⟨h1, h2⟩ := List.mem_filter.mp hz
  rw [← e]
  exact ⟨by simpa using h2, z, h1, rfl⟩
 ·rintro ⟨h2, z, h1, e⟩
  exact ⟨z, List.mem_filter.mpr ⟨h1, by rw [e]; simpa using h2⟩, e⟩
theorem scad0 : FnScope ["_law_script", "_law_k"] ["_law_script", "_law_k"] (defScope sad0) := fsc
theorem okad0 (D : Def K mg "_law_cell_at" sad0 .none) (z_len : mg "len" = none) : Cal P w K mg base CX0 cm 1 "_law_cell_at" ["_law_script", "_law_k"] [] (spCell K) := by
 obtain ⟨f, fd, F, hm⟩ := D
 refine ⟨f, fd, _, F.ok scad0 (fun vs H Q E h => ?_) (fun cdv A outer s H vs Q E hr h => ?_), hm, F.kp, (F.b2), .nil, F.b2⟩
 ·obtain ⟨a, ns, k, rfl, hS, q⟩ := h
  rfl
 obtain ⟨a, ns, k, rfl, hS, q⟩ := h
 have nd := scad0.nd
 refine ⟨_, (Qae (Qbq (Qap Qjz (pv 1) (Qao Qaj rfl z_len Qa1 (Qaa (pv 0) Qad)) (nomark _)) (Qag (Qat (Qam Qai (pv 0) (pv 1) (fun _ _ => rfl)))) Qay)
  (Qag (Qat Qaf))), ?_⟩
 refine ⟨_, rfl, _, rfl, a, _, rfl, .inl hS, _, _, rfl, rfl, _, rfl, ?_⟩
 rw [List.length_map]
 refine dec2 (fun h => ?_) (fun h => ?_)
 ·refine ⟨_, rfl, _, rfl, .inl ⟨a, _, k, .int (ns.getD k 0), rfl, rfl, hS, Qbr ?_, q⟩⟩
  have hk : k < ns.length := by omega
  rw [List.getElem?_map, List.getElem?_eq_getElem hk]
  simp [List.getD, hk]
 ·have hk : ns.length ≤ k := by omega
  have e : ns.getD k 0 = 0 := by simp [List.getD, hk]
  rw [e] at q
  exact q
theorem scaq0 : FnScope ["_law_found"] ["_law_found"] (defScope saq0) := fsc
theorem okaq0 (D : Def K mg "_law_whole" saq0 .none) (z_isinstance : mg "isinstance" = none) (z_int : mg "int" = none) (z_bool : mg "bool" = none) (q_ib : PySem.W.kitOne K (.type "int") (.type "bool") = some false) : Cal P w K mg base CX0 cm 1 "_law_whole" ["_law_found"] [] spWhole := by
 obtain ⟨f, fd, F, hm⟩ := D
 refine ⟨f, fd, _, F.ok scaq0 (fun vs H Q E h => ?_) (fun cdv A outer s H vs Q E hr h => ?_), hm, F.kp, (F.b1), .nil, F.b1⟩
 ·obtain ⟨i, rfl, q⟩ := h
  rfl
 obtain ⟨i, rfl, q⟩ := h
 have nd := scaq0.nd
 refine ⟨_, (Qag (Qat (Qky (Qao Qf4 rfl z_isinstance Qce (Qaa (pv 0) (Qaa (Qfr (v := .ty "int") rfl z_int Qjb rfl) Qad))) (Qhz (pe_not (Qao Qf4 rfl z_isinstance Qce (Qaa (pv 0) (Qaa (Qfr (v := .ty "bool") rfl z_bool Qjc rfl) Qad)))))))), ?_⟩
 refine ⟨_, rfl, _, _, _, _, _, rfl, .of (.int i), rfl, rfl, true, rfl, iteT ?_⟩
 exact ⟨_, rfl, _, _, _, _, _, rfl, .of (.int i), rfl, q_ib, false, rfl, q⟩
theorem scai0 : FnScope ["_law_cell", "_law_by"] ["_law_cell", "_law_by"] (defScope sai0) := fsc
theorem okai0 (D : Def K mg "_law_mix" sai0 .none) : Cal P w K mg base CX0 cm 1 "_law_mix" ["_law_cell", "_law_by"] [] spMix := by
 obtain ⟨f, fd, F, hm⟩ := D
 refine ⟨f, fd, _, F.ok scai0 (fun vs H Q E h => ?_) (fun cdv A outer s H vs Q E hr h => ?_), hm, F.kp, (F.b2), .nil, F.b2⟩
 ·obtain ⟨c, b, rfl, hb, q⟩ := h
  rfl
 obtain ⟨c, b, rfl, hb, q⟩ := h
 have nd := scai0.nd
 refine ⟨_, (Qag (Qat (Qan Qcd (Qan Qa8 (Qan Qav (Qan Qbp (Qan Qa8 (pv 0) Qaf) Qaf) (pv 1)) Qaf) Qaf))), ?_⟩
 exact ⟨_, rfl, _, _, rfl, rfl, (by show (0 : Int) < 2147483647; decide), _, _, rfl, rfl, _, rfl, _, _, rfl, rfl, Qdi (by omega) (by omega) (by omega) (by omega), _, _, rfl, rfl, (by show (0 : Int) < 2147483399; decide), _, _, rfl, rfl, ⟨by decide, by decide⟩, q _ (by omega) (by omega)⟩
theorem scaj0 : FnScope ["_law_cell", "_law_many", "_law_letters", "_law_seed", "_law_base", "_law_size", "_law_at", "_law_turn", "_law_names_here", "_law_k"] ["_law_cell", "_law_many"] (defScope saj0) := fsc
theorem okaj0 (D : Def K mg "_law_names" saj0 .none) (z_range : mg "range" = none) (z_int : mg "int" = none) : Cal P w K mg base CX0 true 2 "_law_names" ["_law_cell", "_law_many"] [] spNd := by
 obtain ⟨f, fd, F, hm⟩ := D
 refine ⟨f, fd, _, F.ok scaj0 (fun vs H Q E h => ?_) (fun cdv A outer s H vs Q E hr h => ?_), hm, F.kp, (F.b2), .nil, F.b2⟩
 ·obtain ⟨c, m, rfl, hm1, hm8, q⟩ := h
  rfl
 obtain ⟨c, m, rfl, hm1, hm8, q⟩ := h
 have nd := scaj0.nd
 refine ⟨_, (Qae (Qak (i := 2) nd rfl (Or.inr rfl) Qcf)
  (Qae (Qak (i := 3) nd rfl (Or.inr rfl) (Qan Qa8 (pv 0) Qaf))
  (Qae (Qak (i := 4) nd rfl (Or.inr rfl) (Qc2 [3] rfl (LcOk.free ["_law_seed"] rfl rfl (List.forall_mem_cons.mpr ⟨rfl, (fun _ h => nomatch h)⟩) (by decide+kernel) rfl (by decide+kernel) rfl (by decide+kernel) (show (["_law_k", "_law_seed"] : List Str).Nodup from by decide+kernel) (List.forall_mem_cons.mpr ⟨⟨_, rfl, rfl, rfl, by decide+kernel⟩, (fun _ h => nomatch h)⟩)) (Qaz rfl z_range (Qaa Qaf Qad)) (fun C s2 H2 fp xe => (Qan Qa8 (Qan Qa8 (Qan Qav (pv 1) (Qan Qbp (Qan Qav (pv 0) (pv 0)) Qaf)) Qaf) Qaf))))
  (Qae (Qak (i := 5) nd rfl (Or.inl rfl) (Qan Qbp Qaf (Qan Qa8 (Qan Qcd (pv 3) Qaf) Qaf)))
  (Qae (Qak (i := 6) nd rfl (Or.inr rfl) (Qan Qa8 (Qan Qcd (pv 3) Qaf) (pv 5)))
  (Qae (Qak (i := 7) nd rfl (Or.inl rfl) (Qan Qa8 (Qan Qcd (pv 3) Qaf) (pv 1)))
  (Qae (Qak (i := 8) nd rfl (Or.inl rfl) (Qba Qad))
  (Qae (Qbe PassesOwn.never rfl (Qaz rfl z_range (Qaa (pv 1) Qad)) (Qau (i := 9) nd rfl (Or.inr rfl)) (Qag (Qbq (Qap Qb7 (Qan Qa8 (pv 3) Qaf) Qaf (nomark _)) (Qag (Qby (Qc7 PySem.F.plainAttrs_list PySem.F.slot_list_append PySem.F.type_list_append Qbs (pv 8) (Qaa (Qc7 PySem.F.plainAttrs_str PySem.F.slot_str_join PySem.F.type_str_join Qh6 Qcf (Qaa (Qc2 [2, 4] rfl (LcOk.free ["_law_letters", "_law_base"] rfl rfl (List.forall_mem_cons.mpr ⟨rfl, (List.forall_mem_cons.mpr ⟨rfl, (fun _ h => nomatch h)⟩)⟩) (by decide+kernel) rfl (by decide+kernel) rfl (by decide+kernel) (show (["_law_j", "_law_letters", "_law_base"] : List Str).Nodup from by decide+kernel) (List.forall_mem_cons.mpr ⟨⟨_, rfl, rfl, rfl, by decide+kernel⟩, (List.forall_mem_cons.mpr ⟨⟨_, rfl, rfl, rfl, by decide+kernel⟩, (fun _ h => nomatch h)⟩)⟩)) (Qaz rfl z_range (Qaa (Qan Qbp (pv 9) Qaf) Qad)) (fun C s2 H2 fp xe => (Qam Qa0 (pv 1) (Qam Qa0 (pv 2) (pv 0) (fun _ _ => rfl)) (fun _ _ => rfl)))) Qad)) Qad)))) (Qag (Qby (Qc7 PySem.F.plainAttrs_list PySem.F.slot_list_append PySem.F.type_list_append Qbs (pv 8) (Qaa (Qc7 PySem.F.plainAttrs_str PySem.F.slot_str_join PySem.F.type_str_join Qh6 Qcf (Qaa (Qc2 [2, 4, 9, 6] rfl (LcOk.free ["_law_letters", "_law_k", "_law_base", "_law_at"] rfl rfl (List.forall_mem_cons.mpr ⟨rfl, (List.forall_mem_cons.mpr ⟨rfl, (List.forall_mem_cons.mpr ⟨rfl, (List.forall_mem_cons.mpr ⟨rfl, (fun _ h => nomatch h)⟩)⟩)⟩)⟩) (by decide+kernel) rfl (by decide+kernel) rfl (by decide+kernel) (show (["_law_j", "_law_letters", "_law_base", "_law_k", "_law_at"] : List Str).Nodup from by decide+kernel) (List.forall_mem_cons.mpr ⟨⟨_, rfl, rfl, rfl, by decide+kernel⟩, (List.forall_mem_cons.mpr ⟨⟨_, rfl, rfl, rfl, by decide+kernel⟩, (List.forall_mem_cons.mpr ⟨⟨_, rfl, rfl, rfl, by decide+kernel⟩, (List.forall_mem_cons.mpr ⟨⟨_, rfl, rfl, rfl, by decide+kernel⟩, (fun _ h => nomatch h)⟩)⟩)⟩)⟩)) (Qaz rfl z_range (Qaa (pv 5) Qad)) (fun C s2 H2 fp xe => (Qam Qa0 (pv 1) (Qan Qa8 (Qan Qbp (Qam Qa0 (pv 2) (pv 0) (fun _ _ => rfl)) (Qan Qav (pv 3) (Qbg Qfc rfl z_int Qjb (Qaa (Qcl Qb7 (pv 0) (pv 4) (nomark _)) Qad)))) Qaf) (fun _ _ => rfl)))) Qad)) Qad)))))))
  (Qag (Qat (Qan Qb1 (Qa3 Qbf (pv 8) (Qa9 (pv 7)) Qbl) (Qa3 Qbf (pv 8) Qbl (Qa9 (pv 7)))))))))))))), ?_⟩
 have hline : 600 ≤ sizeLine := by decide
 refine ⟨_, rfl, _, _, rfl, rfl, (by show (0 : Int) < 999983; decide), ?_⟩
 refine ⟨_, rfl, by decide, by decide, ?_⟩
 refine Qcs (fun i ys H1 => ∃ bs : List Int, ys = bs.map V.int ∧ bs.length = i ∧ (∀ b ∈ bs, 0 ≤ b ∧ b < 26) ∧ H1 = H) ⟨[], rfl, rfl, (fun b hb => nomatch hb), rfl⟩ (by show 8 ≤ sizeLine; decide) ?_ ?_ ?_
 ·rintro i ys H1 hi ⟨bs, rfl, hb, _, rfl⟩
  rw [List.length_map]
  exact hb
 ·rintro i ys H1 hi ⟨bs, rfl, hb, hbs, rfl⟩
  have hi8 : i < 8 := hi
  have sq := sq8 i hi8
  refine ⟨_, rfl, _, rfl, _, rfl, _, _, rfl, rfl, Qdi (by omega) (by omega) (by omega) (by omega), _, _, rfl, rfl, _, _, rfl, rfl, Qdi (by omega) (by omega) (by omega) (by omega), _, _, rfl, rfl, (by show (0 : Int) < 7919; decide), _, _, rfl, rfl, (by show (0 : Int) < 26; decide), bs ++ [_], by rw [List.map_append]; rfl, by rw [List.length_append, hb]; rfl, fun b hm => ?_, rfl⟩
  rcases List.mem_append.mp hm with w | w
  ·exact hbs b w
  ·rw [List.mem_singleton.mp w]
   omega
 rintro ys H0 ⟨bs, rfl, hbn, hbs, rfl⟩ bl hbl
 have hbn8 : bs.length = 8 := hbn
 have eb := Qac (o := .lst (bs.map V.int)) hbl
 have hat : atN c < 8 ∧ (atN c : Int) < (1 + c % 999983 / 3 % 8) := by
  unfold atN
  have a1 := Int.emod_nonneg (c % 999983 / 24) (show (1 + c % 999983 / 3 % 8) ≠ 0 by omega)
  have a2 := Int.emod_lt_of_pos (c % 999983 / 24) (show 0 < (1 + c % 999983 / 3 % 8) by omega)
  omega
 have hbb8 : ∀ j, j < 8 → 0 ≤ bs.getD j 0 ∧ bs.getD j 0 < 26 := fun j hj => by
  have : bs.getD j 0 = bs[j]'(by omega) := by simp [List.getD, show j < bs.length by omega]
  rw [this]
  exact hbs _ (List.getElem_mem _)
 refine ⟨_, rfl, _, _, rfl, rfl, ⟨by decide, by decide⟩, _, _, rfl, rfl, (by show (0 : Int) < 8; decide), _, _, rfl, rfl, ?_⟩
 refine ⟨_, rfl, _, _, rfl, rfl, ⟨by decide, by decide⟩, _, rfl, _, _, rfl, rfl, (by show (0 : Int) < (1 + c % 999983 / 3 % 8); omega), ?_⟩
 refine ⟨_, rfl, _, _, rfl, rfl, ⟨by decide, by decide⟩, _, rfl, _, _, rfl, rfl, (by show (0 : Int) < m; omega), ?_⟩
 refine ⟨(by show 0 ≤ sizeLine; decide), fun l hl => ?_⟩
 have nbl : bl ≠ l := Qal Qab hl
 have el := Qac (o := .lst []) hl
 have hlH := eb.free hl
 refine ⟨_, rfl, _, rfl, by omega, by omega, ?_⟩
 refine Qbh (fun i σ H' => ∃ (o : Option V) (xs : List Str), σ = [some (.int c), some (.int m), some (.str L26), some (.int (c % 999983)), some (.ref bl), some (.int (1 + c % 999983 / 3 % 8)), some (.int (c % 999983 / 24 % (1 + c % 999983 / 3 % 8))), some (.int (c % 999983 / 5 % m)), some (.ref l), o] ∧ Same H0 H' ∧ H' l = some (.lst (xs.map V.str)) ∧ xs.length = i ∧ H' bl = some (.lst (bs.map V.int)) ∧ ∀ j x, xs[j]? = some x → Dn c bs j x) ⟨_, [], rfl, eb.trans el, Qab, rfl, el _ _ Qab, fun j x h => by simp at h⟩ ?_ ?_
 ·rintro i σ H1 hi ⟨o, xs, rfl, eH, hll, hxl, hbb, hdn⟩
  have him : i < m := by omega
  refine ⟨_, rfl, _, _, rfl, rfl, (by show (0 : Int) < 3; decide), rfl, _, rfl, ?_⟩
  refine dec2 (fun h => ?_) (fun h => ?_)
  ·have h3 : c % 999983 % 3 = 1 := V.int.inj h
   refine ⟨_, rfl, .inl ⟨rfl, _, SqL.of hll⟩, rfl, _, rfl, _, _, rfl, rfl, _, rfl, by omega, by omega, ?_⟩
   refine Qcs (fun j ys H2 => ∃ ls : List Nat, ys = (ls.map sg).map V.str ∧ ls.length = j ∧ True ∧ H2 = H1) ⟨[], rfl, rfl, trivial, rfl⟩ (by omega) ?_ ?_ ?_
   ·rintro j ys H2 hj ⟨ls, rfl, hz, _, rfl⟩
    rw [List.length_map, List.length_map]
    exact hz
   ·rintro j ys H2 hj ⟨ls, rfl, hz, hv, rfl⟩
    obtain ⟨b, bm, hb⟩ := Qil (ws := bs) (i := 0 + (j : Int)) (by omega) (by omega)
    obtain ⟨b0, b1⟩ := hbs b bm
    refine ⟨_, rfl, _, rfl, _, rfl, .inl ⟨bl, _, _, _, rfl, rfl, SqL.of hbb, hb, .inr (.inr ⟨L26, _, _, rfl, rfl, Qic, Qk5 b0 b1, ?_⟩)⟩⟩
    exact ⟨ls ++ [97 + b.toNat], by rw [List.map_append, List.map_append]; rfl, by rw [List.length_append, hz]; rfl, trivial, rfl⟩
   ·rintro ys H2 ⟨ls, rfl, hz, hv, rfl⟩ l3 hl3
    have e3 := Qac (o := .lst ((ls.map sg).map V.str)) hl3
    refine ⟨"", l3, ls.map sg, rfl, rfl, SqL.of Qab, Qig (by rw [List.length_map]; omega) Qkr, ?_⟩
    refine ⟨l, _, _, rfl, rfl, e3 _ _ hll, (by rw [List.length_map]; omega), ?_⟩
    refine ⟨_, xs ++ [Txt.join "" (ls.map sg)], rfl, Qbo (eH.trans e3) hlH, (by rw [Qab, List.map_append]; rfl), by rw [List.length_append, hxl]; rfl, ?_, Qld hdn ?_⟩
    ·rw [Qar nbl]
     exact e3 _ _ hbb
    ·unfold Dn
     rw [if_pos h3, Qhe, hz, hxl]
     omega
  ·have h3 : ¬ c % 999983 % 3 = 1 := fun z => h (congrArg V.int z)
   refine ⟨_, rfl, .inl ⟨rfl, _, SqL.of hll⟩, rfl, _, rfl, _, rfl, by omega, by omega, ?_⟩
   refine Qcs (fun j ys H2 => ∃ ls : List Nat, ys = (ls.map sg).map V.str ∧ ls.length = j ∧ (atN c < j → ls[atN c]? = some (97 + ((bs.getD (atN c) 0 + (i : Int)) % 26).toNat)) ∧ H2 = H1) ⟨[], rfl, rfl, (fun z => absurd z (Nat.not_lt_zero _)), rfl⟩ (by omega) ?_ ?_ ?_
   ·rintro j ys H2 hj ⟨ls, rfl, hz, _, rfl⟩
    rw [List.length_map, List.length_map]
    exact hz
   ·rintro j ys H2 hj ⟨ls, rfl, hz, hv, rfl⟩
    have hb := Qjg (ws := bs) (n := j) (by omega)
    rw [show ((j : Nat) : Int) = 0 + (j : Int) by omega] at hb
    generalize hbe : bs.getD j 0 = b at hb
    have m0 := Int.emod_nonneg (b + (0 + (i : Int)) * (if decide (V.int (0 + (j : Int)) = V.int (c % 999983 / 24 % (1 + c % 999983 / 3 % 8))) = true then 1 else 0)) (show (26 : Int) ≠ 0 by decide)
    have m1 := Int.emod_lt_of_pos (b + (0 + (i : Int)) * (if decide (V.int (0 + (j : Int)) = V.int (c % 999983 / 24 % (1 + c % 999983 / 3 % 8))) = true then 1 else 0)) (show (0 : Int) < 26 by decide)
    have mi : (if decide (V.int (0 + (j : Int)) = V.int (c % 999983 / 24 % (1 + c % 999983 / 3 % 8))) = true then (1 : Int) else 0) = 0 ∨ (if decide (V.int (0 + (j : Int)) = V.int (c % 999983 / 24 % (1 + c % 999983 / 3 % 8))) = true then (1 : Int) else 0) = 1 := by split <;> simp
    refine ⟨_, rfl, _, rfl, _, rfl, .inl ⟨bl, _, _, _, rfl, rfl, SqL.of hbb, hb, _, rfl, _, rfl, _, rfl, rfl, .inr ⟨_, rfl, _, _, rfl, rfl, Qdi (by omega) (by omega) (by omega) (by omega), _, _, rfl, rfl, _, _, rfl, rfl, (by show (0 : Int) < 26; decide), .inr (.inr ⟨L26, _, _, rfl, rfl, Qic, Qk5 m0 m1, ?_⟩)⟩⟩⟩
    refine ⟨ls ++ [97 + ((b + (0 + (i : Int)) * (if decide (V.int (0 + (j : Int)) = V.int (c % 999983 / 24 % (1 + c % 999983 / 3 % 8))) = true then 1 else 0)) % 26).toNat], by rw [List.map_append, List.map_append]; rfl, by rw [List.length_append, hz]; rfl, fun ha => ?_, rfl⟩
    rcases Nat.lt_or_eq_of_le (Nat.le_of_lt_succ ha) with w | w
    ·rw [List.getElem?_append_left (by omega)]
     exact hv w
    ·rw [List.getElem?_append_right (by omega), w, hz, Nat.sub_self]
     have an := Int.emod_nonneg (c % 999983 / 24) (show (1 + c % 999983 / 3 % 8) ≠ 0 by omega)
     have hj1 : (V.int (0 + (j : Int)) = V.int (c % 999983 / 24 % (1 + c % 999983 / 3 % 8))) := congrArg V.int (by rw [← w]; unfold atN; omega)
     rw [if_pos (decide_eq_true hj1), hbe]
     show some (97 + ((b + (0 + (i : Int)) * 1) % 26).toNat) = _
     rw [show b + (0 + (i : Int)) * 1 = b + (i : Int) by omega]
   ·rintro ys H2 ⟨ls, rfl, hz, hv, rfl⟩ l3 hl3
    have e3 := Qac (o := .lst ((ls.map sg).map V.str)) hl3
    refine ⟨"", l3, ls.map sg, rfl, rfl, SqL.of Qab, Qig (by rw [List.length_map]; omega) Qkr, ?_⟩
    refine ⟨l, _, _, rfl, rfl, e3 _ _ hll, (by rw [List.length_map]; omega), ?_⟩
    refine ⟨_, xs ++ [Txt.join "" (ls.map sg)], rfl, Qbo (eH.trans e3) hlH, (by rw [Qab, List.map_append]; rfl), by rw [List.length_append, hxl]; rfl, ?_, Qld hdn ?_⟩
    ·rw [Qar nbl]
     exact e3 _ _ hbb
    ·unfold Dn
     rw [if_neg h3, Qhe, hxl]
     exact hv (by omega)
 ·rintro σ H1 ⟨o, xs, rfl, eH, hll, hxl, hbb, hdn⟩
  have hxm : xs.length = m := by omega
  have hnd := Qkf (by omega) hdn
  obtain ⟨t, ht⟩ : ∃ t : Nat, c % 999983 / 5 % (m : Int) = (t : Int) := Int.eq_ofNat_of_zero_le (Int.emod_nonneg _ (by omega))
  rw [ht]
  refine ⟨_, rfl, _, rfl, _, rfl, l, _, rfl, SqL.of hll, fun x1 hx1 => ?_⟩
  have s1 := Qac (o := .lst (cutV (xs.map V.str) (some (t : Int)) none)) hx1
  refine ⟨_, rfl, _, rfl, _, rfl, l, _, rfl, SqL.of (s1 _ _ hll), fun x2 hx2 => ?_⟩
  have s2 := Qac (o := .lst (cutV (xs.map V.str) none (some (t : Int)))) hx2
  obtain ⟨us, hu, lu, nu, _⟩ := Qlg xs t hnd
  have hlu := congrArg List.length hu
  rw [List.length_append, List.length_map] at hlu
  refine ⟨x1, x2, _, _, rfl, rfl, s2 _ _ Qab, Qab, by omega, fun x3 hx3 => ?_⟩
  rw [hu]
  exact q x3 us _ (((eH.trans s1).trans s2).trans (Qac hx3)) Qab (lu.trans hxm) nu
theorem scam0 : FnScope ["_law_script", "_law_cell", "_law_names_here", "_law_many", "_law_some"] ["_law_script"] (defScope sam0) := fsc
theorem okam0 (D : Def K mg "_law_people" sam0 .none) (cad0 : Cal P w K mg base CX0 true 1 "_law_cell_at" ["_law_script", "_law_k"] [] (spCell K)) (caj0 : Cal P w K mg base CX0 true 2 "_law_names" ["_law_cell", "_law_many"] [] spNd) (cai0 : Cal P w K mg base CX0 true 1 "_law_mix" ["_law_cell", "_law_by"] [] spMix) (z_min : mg "min" = none) : Cal P w K mg base CX0 true 3 "_law_people" ["_law_script"] [] (spPeople K) := by
 obtain ⟨f, fd, F, hm⟩ := D
 obtain ⟨fad0, fdad0, dad0, Gad0, mad0, kad0, bad0, vad0, bad01⟩ := cad0
 obtain ⟨faj0, fdaj0, daj0, Gaj0, maj0, kaj0, baj0, vaj0, baj01⟩ := caj0
 obtain ⟨fai0, fdai0, dai0, Gai0, mai0, kai0, bai0, vai0, bai01⟩ := cai0
 refine ⟨f, fd, _, F.ok scam0 (fun vs H Q E h => ?_) (fun cdv A outer s H vs Q E hr h => ?_), hm, F.kp, (F.b1), .nil, F.b1⟩
 ·obtain ⟨a, ns, rfl, hS, q⟩ := h
  rfl
 obtain ⟨a, ns, rfl, hS, q⟩ := h
 have nd := scam0.nd
 refine ⟨_, (Qae (Qak (i := 1) nd rfl (Or.inl rfl) (Qah Gad0 (hr.mono (by decide)) rfl mad0 kad0 bad0 Paired.nil pass0 (Qaa (pv 0) (Qaa Qaf Qad))))
  (Qae (Qak (i := 2) nd rfl (Or.inl rfl) (Qah Gaj0 (hr.mono (by decide)) rfl maj0 kaj0 baj0 Paired.nil pass0 (Qaa (pv 1) (Qaa Qaf Qad))))
  (Qae (Qak (i := 3) nd rfl (Or.inl rfl) (Qan Qbp Qaf (Qan Qa8 (Qah Gai0 (hr.mono (by decide)) rfl mai0 kai0 bai0 Paired.nil pass0 (Qaa (pv 1) (Qaa Qaf Qad))) Qaf)))
  (Qae (Qbq (Qap Qb7 (Qan Qa8 (Qah Gai0 (hr.mono (by decide)) rfl mai0 kai0 bai0 Paired.nil pass0 (Qaa (pv 1) (Qaa Qaf Qad))) Qaf) Qaf (nomark _)) (Qag (Qak (i := 3) nd rfl (Or.inl rfl) Qaf)) Qay)
  (Qae (Qak (i := 4) nd rfl (Or.inl rfl) (Qan Qbp Qaf (Qan Qa8 (Qah Gai0 (hr.mono (by decide)) rfl mai0 kai0 bai0 Paired.nil pass0 (Qaa (pv 1) (Qaa Qaf Qad))) (Qao (Qi8 rfl) rfl z_min bt_min (Qaa Qaf (Qaa (Qan Qgu Qaf (pv 3)) Qad))))))
  (Qag (Qat (Qbm (Qaa (Qa3 Qbf (pv 2) Qbl (Qa9 (pv 3))) (Qaa (Qa3 Qbf (pv 2) (Qa9 (pv 3)) (Qa9 (Qan Qbp (pv 3) (pv 4)))) Qad)))))))))), ?_⟩
 have hline : 600 ≤ sizeLine := by decide
 refine ⟨_, rfl, a, ns, 0, rfl, hS, ?_⟩
 refine ⟨_, rfl, _, 8, rfl, by decide, by decide, fun l xs H1 e1 hl hx hnd => ?_⟩
 refine ⟨_, rfl, _, 40014, rfl, by decide, fun m1 a0 a1 => ⟨_, _, rfl, rfl, (by show (0 : Int) < 4; decide), _, _, rfl, rfl, ?_⟩⟩
 refine ⟨_, rfl, _, 69621, rfl, by decide, fun m2 b0 b1 => ⟨_, _, rfl, rfl, (by show (0 : Int) < 16; decide), rfl, _, rfl, ?_⟩⟩
 refine dec2 (fun h => ?_) (fun h => ?_)
 ·have hmn : (0 : Int) < (if (8 : Int) - 6 < 3 then (8 : Int) - 6 else 3) ∧ (if (8 : Int) - 6 < 3 then (8 : Int) - 6 else 3) ≤ 3 ∧ (if (8 : Int) - 6 < 3 then (8 : Int) - 6 else 3) ≤ 8 - 6 := by
   split <;> omega
  refine ⟨_, rfl, _, 39373, rfl, by decide, fun m3 p0 p1 => ⟨_, rfl, _, _, rfl, rfl, _, _, rfl, _, _, rfl, rfl, hmn.1, _, _, rfl, rfl, ?_⟩⟩
  have r0 := Int.emod_nonneg m3 (show (if (8 : Int) - 6 < 3 then (8 : Int) - 6 else 3) ≠ 0 by omega)
  have r1 := Int.emod_lt_of_pos m3 hmn.1
  refine ⟨_, rfl, _, rfl, _, rfl, l, _, rfl, SqL.of hl, fun x1 hx1 => ?_⟩
  obtain ⟨S, hSs⟩ : ∃ S : Nat, 1 + m3 % (if (8 : Int) - 6 < 3 then (8 : Int) - 6 else 3) = (S : Int) := Int.eq_ofNat_of_zero_le (by omega)
  obtain ⟨M, hM⟩ : ∃ M : Nat, 6 = (M : Int) := Int.eq_ofNat_of_zero_le (by omega)
  have hM8 : M + S ≤ 8 := by omega
  have s1 := Qac (o := .lst (cutV (xs.map V.str) none (some (6)))) hx1
  refine ⟨_, rfl, _, rfl, _, rfl, _, rfl, _, rfl, _, _, rfl, rfl, _, rfl, l, _, rfl, SqL.of (s1 _ _ hl), fun x2 hx2 => ?_⟩
  have s2 := Qac (o := .lst (cutV (xs.map V.str) (some (6)) (some (6 + (1 + m3 % (if (8 : Int) - 6 < 3 then (8 : Int) - 6 else 3)))))) hx2
  have c1 : cutV (xs.map V.str) none (some (6)) = (xs.take M).map V.str := by
   rw [hM, Qdb, List.length_map, hx, Nat.min_eq_left (by omega), List.map_take]
  have c2 : cutV (xs.map V.str) (some (6)) (some (6 + (1 + m3 % (if (8 : Int) - 6 < 3 then (8 : Int) - 6 else 3)))) = ((xs.drop M).take S).map V.str := by
   rw [hSs, hM, show (M : Int) + (S : Int) = ((M + S : Nat) : Int) by omega]
   unfold cutV
   rw [HT.sIx_nat, HT.sIx_nat, List.length_map, hx, Nat.min_eq_left (by omega), Nat.min_eq_left (by omega), show M + S - M = S by omega, ← List.map_drop, ← List.map_take]
  refine ⟨(by show 2 ≤ sizeLine; decide), fun p hp => ?_⟩
  have s3 := Qac (o := .tup [.ref x1, .ref x2]) hp
  refine q p x1 x2 (xs.take M) ((xs.drop M).take S) _ (((e1.trans s1).trans s2).trans s3) Qab ⟨?_, ?_, ?_, ?_, ?_, ?_, ?_, (by rw [List.length_take, List.length_take, List.length_drop]; omega)⟩
  ·rw [← c1]
   exact s3 _ _ (s2 _ _ Qab)
  ·rw [← c2]
   exact s3 _ _ Qab
  ·rw [List.length_take]
   omega
  ·rw [List.length_take]
   omega
  ·rw [List.length_take, List.length_drop]
   omega
  ·rw [List.length_take, List.length_drop]
   omega
  ·have t : xs.take M ++ (xs.drop M).take S = xs.take (M + S) := by rw [List.take_add]
   rw [t]
   exact hnd.sublist (List.take_sublist _ _)
 have hmn : (0 : Int) < (if (8 : Int) - (1 + m1 % 4) < 3 then (8 : Int) - (1 + m1 % 4) else 3) ∧ (if (8 : Int) - (1 + m1 % 4) < 3 then (8 : Int) - (1 + m1 % 4) else 3) ≤ 3 ∧ (if (8 : Int) - (1 + m1 % 4) < 3 then (8 : Int) - (1 + m1 % 4) else 3) ≤ 8 - (1 + m1 % 4) := by
  split <;> omega
 refine ⟨_, rfl, _, 39373, rfl, by decide, fun m3 p0 p1 => ⟨_, rfl, _, _, rfl, rfl, _, _, rfl, _, _, rfl, rfl, hmn.1, _, _, rfl, rfl, ?_⟩⟩
 have r0 := Int.emod_nonneg m3 (show (if (8 : Int) - (1 + m1 % 4) < 3 then (8 : Int) - (1 + m1 % 4) else 3) ≠ 0 by omega)
 have r1 := Int.emod_lt_of_pos m3 hmn.1
 refine ⟨_, rfl, _, rfl, _, rfl, l, _, rfl, SqL.of hl, fun x1 hx1 => ?_⟩
 obtain ⟨S, hSs⟩ : ∃ S : Nat, 1 + m3 % (if (8 : Int) - (1 + m1 % 4) < 3 then (8 : Int) - (1 + m1 % 4) else 3) = (S : Int) := Int.eq_ofNat_of_zero_le (by omega)
 obtain ⟨M, hM⟩ : ∃ M : Nat, (1 + m1 % 4) = (M : Int) := Int.eq_ofNat_of_zero_le (by omega)
 have hM8 : M + S ≤ 8 := by omega
 have s1 := Qac (o := .lst (cutV (xs.map V.str) none (some ((1 + m1 % 4))))) hx1
 refine ⟨_, rfl, _, rfl, _, rfl, _, rfl, _, rfl, _, _, rfl, rfl, _, rfl, l, _, rfl, SqL.of (s1 _ _ hl), fun x2 hx2 => ?_⟩
 have s2 := Qac (o := .lst (cutV (xs.map V.str) (some ((1 + m1 % 4))) (some ((1 + m1 % 4) + (1 + m3 % (if (8 : Int) - (1 + m1 % 4) < 3 then (8 : Int) - (1 + m1 % 4) else 3)))))) hx2
 have c1 : cutV (xs.map V.str) none (some ((1 + m1 % 4))) = (xs.take M).map V.str := by
  rw [hM, Qdb, List.length_map, hx, Nat.min_eq_left (by omega), List.map_take]
 have c2 : cutV (xs.map V.str) (some ((1 + m1 % 4))) (some ((1 + m1 % 4) + (1 + m3 % (if (8 : Int) - (1 + m1 % 4) < 3 then (8 : Int) - (1 + m1 % 4) else 3)))) = ((xs.drop M).take S).map V.str := by
  rw [hSs, hM, show (M : Int) + (S : Int) = ((M + S : Nat) : Int) by omega]
  unfold cutV
  rw [HT.sIx_nat, HT.sIx_nat, List.length_map, hx, Nat.min_eq_left (by omega), Nat.min_eq_left (by omega), show M + S - M = S by omega, ← List.map_drop, ← List.map_take]
 refine ⟨(by show 2 ≤ sizeLine; decide), fun p hp => ?_⟩
 have s3 := Qac (o := .tup [.ref x1, .ref x2]) hp
 refine q p x1 x2 (xs.take M) ((xs.drop M).take S) _ (((e1.trans s1).trans s2).trans s3) Qab ⟨?_, ?_, ?_, ?_, ?_, ?_, ?_, (by rw [List.length_take, List.length_take, List.length_drop]; omega)⟩
 ·rw [← c1]
  exact s3 _ _ (s2 _ _ Qab)
 ·rw [← c2]
  exact s3 _ _ Qab
 ·rw [List.length_take]
  omega
 ·rw [List.length_take]
  omega
 ·rw [List.length_take, List.length_drop]
  omega
 ·rw [List.length_take, List.length_drop]
  omega
 ·have t : xs.take M ++ (xs.drop M).take S = xs.take (M + S) := by rw [List.take_add]
  rw [t]
  exact hnd.sublist (List.take_sublist _ _)
theorem scao0 : FnScope ["_law_cell"] ["_law_cell"] (defScope sao0) := fsc
theorem okao0 (D : Def K mg "_law_shares" sao0 .none) : Cal P w K mg base CX0 cm 1 "_law_shares" ["_law_cell"] [] spShares := by
 obtain ⟨f, fd, F, hm⟩ := D
 refine ⟨f, fd, _, F.ok scao0 (fun vs H Q E h => ?_) (fun cdv A outer s H vs Q E hr h => ?_), hm, F.kp, (F.b1), .nil, F.b1⟩
 ·obtain ⟨c, rfl, hb, q⟩ := h
  rfl
 obtain ⟨c, rfl, hb, q⟩ := h
 have nd := scao0.nd
 refine ⟨_, (Qae (Qbq (Qap Qb7 (Qan Qa8 (pv 0) Qaf) Qaf (nomark _)) (Qag (Qat (Qan Qbp (Qan Qa8 (Qan Qcd (pv 0) Qaf) Qaf) Qaf))) Qay)
  (Qag (Qat (Qan Qbp (Qan Qa8 (Qan Qav (Qan Qcd (pv 0) Qaf) Qaf) (Qan Qk1 Qaf Qaf)) Qaf)))), ?_⟩
 refine ⟨_, rfl, _, _, rfl, rfl, (by show (0 : Int) < 2; decide), rfl, _, rfl, ?_⟩
 refine dec2 (fun h => ⟨_, rfl, _, _, rfl, rfl, ⟨by decide, by decide⟩, _, _, rfl, rfl, (by show (0 : Int) < 9; decide), _, _, rfl, rfl, q _ (by omega) (by first | omega | (have e : (10 : Int) ^ (6 : Int).toNat = 1000000 := rfl; omega))⟩) (fun h => ?_)
 exact ⟨_, rfl, _, _, rfl, rfl, ⟨by decide, by decide⟩, _, _, rfl, rfl, Ql3 hb, _, _, rfl, rfl, ⟨by decide, by decide, by decide⟩, _, _, rfl, rfl, (by show (0 : Int) < 10 ^ 6; decide), _, _, rfl, rfl, q _ (by omega) (by first | omega | (have e : (10 : Int) ^ (6 : Int).toNat = 1000000 := rfl; omega))⟩
theorem join1 {α : Type} {G : Prop} (F P : α → Prop) (hm : (∀ x, F x → P x) → G) (hr : ∀ x, F x → P x) : G := hm hr
theorem scae0 : FnScope ["_law_script", "_law_firms", "_law_strangers", "_law_cell", "_law_turn", "_law_order", "_law_rows", "_law_k", "_law_cells", "_law_everyone", "_law_pick", "_law_holder", "_law_firm", "_law_at"] ["_law_script", "_law_firms", "_law_strangers"] (defScope sae0) := fsc
theorem okae0 (D : Def K mg "_law_good" sae0 .none) (cad0 : Cal P w K mg base CX0 true 1 "_law_cell_at" ["_law_script", "_law_k"] [] (spCell K)) (cai0 : Cal P w K mg base CX0 true 1 "_law_mix" ["_law_cell", "_law_by"] [] spMix) (cao0 : Cal P w K mg base CX0 true 1 "_law_shares" ["_law_cell"] [] spShares) (z_len : mg "len" = none) (z_range : mg "range" = none) : Cal P w K mg base CX0 true 3 "_law_good" ["_law_script", "_law_firms", "_law_strangers"] [] (spGood K) := by
 obtain ⟨f, fd, F, hm⟩ := D
 obtain ⟨fad0, fdad0, dad0, Gad0, mad0, kad0, bad0, vad0, bad01⟩ := cad0
 obtain ⟨fai0, fdai0, dai0, Gai0, mai0, kai0, bai0, vai0, bai01⟩ := cai0
 obtain ⟨fao0, fdao0, dao0, Gao0, mao0, kao0, bao0, vao0, bao01⟩ := cao0
 refine ⟨f, fd, _, F.ok scae0 (fun vs H Q E h => ?_) (fun cdv A outer s H vs Q E hr h => ?_), hm, F.kp, (F.b3), .nil, F.b3⟩
 ·obtain ⟨a, fl, sl, ns, fs, ss, rfl, hS, hlen, hb, P, q⟩ := h
  rfl
 obtain ⟨a, fl, sl, ns, fs, ss, rfl, hS, hlen, hb, P, q⟩ := h
 have nd := scae0.nd
 refine ⟨_, (Qae (Qak (i := 3) nd rfl (Or.inl rfl) (Qah Gad0 (hr.mono (by decide)) rfl mad0 kad0 bad0 Paired.nil pass0 (Qaa (pv 0) (Qaa Qaf Qad))))
  (Qae (Qak (i := 4) nd rfl (Or.inl rfl) (Qan Qa8 (Qah Gai0 (hr.mono (by decide)) rfl mai0 kai0 bai0 Paired.nil pass0 (Qaa (pv 3) (Qaa Qaf Qad))) (Qao Qaj rfl z_len Qa1 (Qaa (pv 1) Qad))))
  (Qae (Qak (i := 5) nd rfl (Or.inl rfl) (Qan Qb1 (Qa3 Qbf (pv 1) (Qa9 (pv 4)) Qbl) (Qa3 Qbf (pv 1) Qbl (Qa9 (pv 4)))))
  (Qae (Qak (i := 6) nd rfl (Or.inl rfl) (Qba Qad))
  (Qae (Qbe PassesOwn.never rfl (Qaz rfl z_range (Qaa (Qao Qaj rfl z_len Qa1 (Qaa (pv 5) Qad)) Qad)) (Qau (i := 7) nd rfl (Or.inl rfl)) (Qae (Qak (i := 10) nd rfl (Or.inl rfl) (Qah Gai0 (hr.mono (by decide)) rfl mai0 kai0 bai0 Paired.nil pass0 (Qaa (pv 3) (Qaa (Qan Qbp Qaf (Qan Qav Qaf (pv 7))) Qad))))
  (Qae (Qak (i := 11) nd rfl (Or.inl rfl) (Qam Qai (pv 2) (Qan Qa8 (pv 10) (Qao Qaj rfl z_len Qa1 (Qaa (pv 2) Qad))) (fun _ _ => rfl)))
  (Qae (Qbq (PW.pt (Qgm (Qap op_gt (pv 7) Qaf (nomark _)) (Qel (Qap Qde (Qan Qa8 (Qan Qcd (pv 10) Qaf) Qaf) Qaf (nomark _))))) (Qag (Qak (i := 11) nd rfl (Or.inl rfl) (Qam Qai (pv 5) (Qan Qa8 (Qan Qcd (pv 10) Qaf) (pv 7)) (fun _ _ => rfl)))) Qay)
  (Qag (Qby (Qc7 PySem.F.plainAttrs_list PySem.F.slot_list_append PySem.F.type_list_append Qbs (pv 6) (Qaa (Qbm (Qaa (pv 11) (Qaa (Qam Qai (pv 5) (pv 7) (fun _ _ => rfl)) (Qaa (Qah Gao0 (hr.mono (by decide)) rfl mao0 kao0 bao0 Paired.nil pass0 (Qaa (Qah Gai0 (hr.mono (by decide)) rfl mai0 kai0 bai0 Paired.nil pass0 (Qaa (pv 3) (Qaa (Qan Qbp Qaf (Qan Qav Qaf (pv 7))) Qad))) Qad)) Qad)))) Qad))))))))
  (Qae (Qak (i := 8) nd rfl (Or.inl rfl) (Qa3 Qbf (pv 0) (Qa9 Qaf) (Qa9 Qaf)))
  (Qae (Qak (i := 9) nd rfl (Or.inl rfl) (Qan Qb1 (pv 1) (pv 2)))
  (Qae (Qbe PassesOwn.never rfl (Qaz rfl z_range (Qaa (Qan Qcd (Qao Qaj rfl z_len Qa1 (Qaa (pv 8) Qad)) Qaf) Qad)) (Qau (i := 7) nd rfl (Or.inl rfl)) (Qae (Qak (i := 10) nd rfl (Or.inl rfl) (Qam Qai (pv 8) (Qan Qav Qaf (pv 7)) (fun _ _ => rfl)))
  (Qae (Qak (i := 11) nd rfl (Or.inl rfl) (Qam Qai (pv 9) (Qan Qa8 (Qah Gai0 (hr.mono (by decide)) rfl mai0 kai0 bai0 Paired.nil pass0 (Qaa (pv 10) (Qaa Qaf Qad))) (Qao Qaj rfl z_len Qa1 (Qaa (pv 9) Qad))) (fun _ _ => rfl)))
  (Qae (Qak (i := 12) nd rfl (Or.inl rfl) (Qam Qai (pv 1) (Qan Qa8 (Qah Gai0 (hr.mono (by decide)) rfl mai0 kai0 bai0 Paired.nil pass0 (Qaa (pv 10) (Qaa Qaf Qad))) (Qao Qaj rfl z_len Qa1 (Qaa (pv 1) Qad))) (fun _ _ => rfl)))
  (Qae (Qak (i := 13) nd rfl (Or.inl rfl) (Qan Qa8 (Qah Gai0 (hr.mono (by decide)) rfl mai0 kai0 bai0 Paired.nil pass0 (Qaa (pv 10) (Qaa Qaf Qad))) (Qan Qbp (Qao Qaj rfl z_len Qa1 (Qaa (pv 6) Qad)) Qaf)))
  (Qag (Qby (Qc7 PySem.F.plainAttrs_list PySem.F.slot_list_insert PySem.F.type_list_insert Qh7 (pv 6) (Qaa (pv 13) (Qaa (Qbm (Qaa (pv 11) (Qaa (pv 12) (Qaa (Qah Gao0 (hr.mono (by decide)) rfl mao0 kao0 bao0 Paired.nil pass0 (Qaa (Qam Qai (pv 8) (Qan Qbp (Qan Qav Qaf (pv 7)) Qaf) (fun _ _ => rfl)) Qad)) Qad)))) Qad))))))))))
  (Qag (Qat (pv 6))))))))))), ?_⟩
 have hline : 10 ^ 6 ≤ sizeLine := by decide
 have lf := P.lf
 have lf8 := P.lf8
 have ls := P.ls
 have ls8 := P.ls8
 have lfm : (fs.map V.str).length = fs.length := List.length_map ..
 have lsm : (ss.map V.str).length = ss.length := List.length_map ..
 have hfn := (List.nodup_append.mp P.nd).1
 refine ⟨_, rfl, a, ns, 1, rfl, hS, ?_⟩
 refine ⟨_, rfl, _, 48271, rfl, by decide, fun m m0 m1 => ⟨_, rfl, fl, _, rfl, .inl (SqL.of P.f), _, _, rfl, rfl, (by show (0 : Int) < ((fs.map V.str).length : Int); omega), ?_⟩⟩
 refine ⟨_, rfl, _, rfl, _, rfl, fl, _, rfl, SqL.of P.f, fun x1 hx1 => ?_⟩
 have s1 := Qac (o := .lst (cutV (fs.map V.str) (some (m % ((fs.map V.str).length : Int))) none)) hx1
 refine ⟨_, rfl, _, rfl, _, rfl, fl, _, rfl, SqL.of (s1 _ _ P.f), fun x2 hx2 => ?_⟩
 have s2 := Qac (o := .lst (cutV (fs.map V.str) none (some (m % ((fs.map V.str).length : Int))))) hx2
 obtain ⟨t, ht⟩ : ∃ t : Nat, m % ((fs.map V.str).length : Int) = (t : Int) := Int.eq_ofNat_of_zero_le (Int.emod_nonneg _ (by omega))
 obtain ⟨us, hu, lu, nu, mu⟩ := Qlg fs t hfn
 rw [← ht] at hu
 have hlu := congrArg List.length hu
 rw [List.length_append] at hlu
 have lum : (us.map V.str).length = us.length := List.length_map ..
 refine ⟨x1, x2, _, _, rfl, rfl, s2 _ _ Qab, Qab, by omega, fun x3 hx3 => ?_⟩
 rw [hu]
 have s3 := Qac (o := .lst (us.map V.str)) hx3
 have s13 := (s1.trans s2).trans s3
 refine ⟨(by show 0 ≤ sizeLine; decide), fun p hp => ?_⟩
 have s4 := Qac (o := .lst []) hp
 have hp0 := s13.free hp
 have nxp : x3 ≠ p := Qal Qab hp
 refine ⟨_, rfl, x3, _, rfl, .inl (SqL.of (s4 _ _ Qab)), _, rfl, by omega, by omega, ?_⟩
 refine Qbh (fun i σ H' => ∃ (o7 o10 o11 : Option V) (R : List Rw), σ = [some (.ref a), some (.ref fl), some (.ref sl), some (.int (ns.getD 1 0)), some (.int (m % ((fs.map V.str).length : Int))), some (.ref x3), some (.ref p), o7, none, none, o10, o11, none, none] ∧ Same H H' ∧ H' x3 = some (.lst (us.map V.str)) ∧ H' p = some (.lst (rfw R)) ∧ RW H' fs (fs ++ ss) R ∧ R.length = i ∧ ∀ j < i, ∀ f, us[j]? = some f → ∃ z ∈ R, z.2.2.1 = f ∧ (z.2.1 ∉ fs ∨ ∃ j2, j2 < j ∧ us[j2]? = some z.2.1)) ⟨_, _, _, [], rfl, s13.trans s4, s4 _ _ Qab, Qab, (fun z hz => nomatch hz), rfl, fun j hj => absurd hj (Nat.not_lt_zero _)⟩ ?_ ?_
 ·rintro i σ H1 hi ⟨o7, o10, o11, R, rfl, e, hx, hpp, hR, hRl, hrk⟩
  have hiu : i < us.length := by omega
  refine ⟨_, rfl, _, rfl, _, _, rfl, rfl, Qdi (by omega) (by omega) (by omega) (by omega), _, _, rfl, rfl, _, _, rfl, by omega, fun pk k0 k1 => ?_⟩
  obtain ⟨w, wm, hw⟩ := Qdp (ws := ss) (i := pk % ((ss.map V.str).length : Int)) (Int.emod_nonneg _ (by omega)) (by rw [← lsm]; exact Int.emod_lt_of_pos _ (by omega))
  refine ⟨_, rfl, _, rfl, _, rfl, sl, _, rfl, .inl (SqL.of (e _ _ P.s)), _, _, rfl, rfl, (by show (0 : Int) < ((ss.map V.str).length : Int); omega), .inl ⟨sl, _, _, _, rfl, rfl, SqL.of (e _ _ P.s), hw, ?_⟩⟩
  have wnf : w ∉ fs := fun c => (List.nodup_append.mp P.nd).2.2 w c w wm rfl
  apply join1 (fun (x : Str) => x ∈ fs ++ ss ∧ (x ∉ fs ∨ ∃ j2, j2 < i ∧ us[j2]? = some x))
  ·intro k
   refine ⟨_, rfl, _, _, rfl, rfl, _, rfl, ?_⟩
   refine dec2 (fun h => ?a) (fun h => iteF ?b)
   case b =>
    obtain ⟨x, ex⟩ : ∃ x : Str, x = w := ⟨_, rfl⟩
    rw [← ex]
    exact k x (by rw [ex]; exact ⟨List.mem_append_right _ wm, .inl wnf⟩)
   case a =>
    refine ⟨_, rfl, _, _, rfl, rfl, ⟨by decide, by decide⟩, _, _, rfl, rfl, (by show (0 : Int) < 3; decide), rfl, _, rfl, ?_⟩
    refine ndec2 (fun h2 => ?_) (fun h2 => ?_)
    ·have hk0 : (0 : Int) < 0 + (i : Int) := h
     obtain ⟨v, j2, vj, hj2, hv⟩ := Qkn (ws := us) (i := pk / 21 % (0 + (i : Int))) (Int.emod_nonneg _ (by omega)) (by have := Int.emod_lt_of_pos (pk / 21) hk0; omega)
     have hj2i : j2 < i := by have := Int.emod_lt_of_pos (pk / 21) hk0; omega
     exact ⟨_, rfl, _, rfl, _, _, rfl, rfl, ⟨by decide, by decide⟩, _, rfl, _, _, rfl, rfl, hk0, .inl ⟨x3, _, _, _, rfl, rfl, SqL.of hx, hv, k v ⟨List.mem_append_left _ ((mu v).mp (List.mem_of_getElem? vj)), .inr ⟨j2, hj2i, vj⟩⟩⟩⟩
    ·exact k w ⟨List.mem_append_right _ wm, .inl wnf⟩
  intro h ⟨hh, hhr⟩
  obtain ⟨f, jf, vjf, hjf, hf⟩ := Qkn (ws := us) (i := 0 + (i : Int)) (by omega) (by omega)
  have fm := List.mem_of_getElem? vjf
  have ejf : jf = i := by omega
  rw [ejf] at vjf
  refine ⟨_, rfl, .inl ⟨rfl, _, SqL.of hpp⟩, _, rfl, _, rfl, _, rfl, .inl ⟨x3, _, _, _, rfl, rfl, SqL.of hx, hf, _, rfl, _, rfl, _, _, rfl, rfl, Qdi (by omega) (by omega) (by omega) (by omega), _, _, rfl, rfl, _, _, rfl, by omega, fun m5 g0 g1 => ⟨m5, rfl, Qmz g0 g1, fun n hn1 hn2 => ⟨(by show 3 ≤ sizeLine; decide), fun y hy => ?_⟩⟩⟩⟩
  have fy := Qac (o := tup3 (y, h, f, n)) hy
  refine ⟨p, _, _, rfl, rfl, fy _ _ hpp, (by rw [Qbc]; omega), ?_⟩
  refine ⟨_, _, _, R ++ [(y, h, f, n)], rfl, Qbo (e.trans fy) hp0, (by rw [Qar nxp]; exact fy _ _ hx), (by rw [Qab, Qek]; rfl), fun z hz => ?_, by rw [List.length_append, hRl]; rfl, fun j hj f2 hf2 => ?_⟩
  ·rcases List.mem_append.mp hz with c | c
   ·exact ⟨Qbn (fy _ _ (hR z c).1) (fy _ _ hpp), (hR z c).2⟩
   ·rw [List.mem_singleton.mp c]
    exact ⟨Qbn Qab (fy _ _ hpp), hh, (mu f).mp fm, hn1, hn2⟩
  ·by_cases cj : j = i
   ·rw [cj, vjf] at hf2
    cases hf2
    refine ⟨(y, h, f, n), List.mem_append_right _ (List.mem_singleton.mpr rfl), rfl, ?_⟩
    rw [cj]
    exact hhr
   ·obtain ⟨z, hz, q1, q2⟩ := hrk j (by omega) f2 hf2
    exact ⟨z, List.mem_append_left _ hz, q1, q2⟩
 rintro σ H1 ⟨o7, o10, o11, R, rfl, e, hx, hpp, hR, hRl, hrk⟩
 have hRk : Rk fs R := rk_of nu (fun f hf => (mu f).mpr hf) (fun j hj f hf => hrk j (by omega) f hf)
 clear hrk
 obtain ⟨ds, hds, lds, mds⟩ := Qkh ns (some 4) (some 52)
 have ldm : (ds.map V.int).length = ds.length := List.length_map ..
 have hd48 : ds.length ≤ 48 := by
  have h := congrArg List.length hds
  rw [List.length_map] at h
  unfold cutV at h
  rw [List.length_take, List.length_map] at h
  have a1 : HT.sIx ns.length ns.length (some 52) = min 52 ns.length := by
   rw [show (52 : Int) = ((52 : Nat) : Int) from rfl, HT.sIx_nat]
  have a2 : HT.sIx ns.length 0 (some 4) = min 4 ns.length := by
   rw [show (4 : Int) = ((4 : Nat) : Int) from rfl, HT.sIx_nat]
  omega
 refine ⟨_, rfl, _, rfl, _, rfl, a, _, rfl, e.seq hS, fun cu hcu => ?_⟩
 rw [hds]
 have g1 := Qac (o := .lst (ds.map V.int)) hcu
 refine ⟨_, rfl, _, rfl, fl, sl, _, _, rfl, rfl, g1 _ _ (e _ _ P.f), g1 _ _ (e _ _ P.s), (by omega), fun ev hev => ?_⟩
 have g2 := Qac (o := .lst (fs.map V.str ++ ss.map V.str)) hev
 have hp2 := g2 _ _ (g1 _ _ hpp)
 have ncp : cu ≠ p := fun w => by
  rw [w, hpp] at hcu
  cases hcu
 have nep : ev ≠ p := fun w => by
  rw [w, g1 _ _ hpp] at hev
  cases hev
 have lem : (fs.map V.str ++ ss.map V.str) = (fs ++ ss).map V.str := by rw [List.map_append]
 rw [lem]
 rw [lem] at g2 hp2
 have e12 := (e.trans g1).trans g2
 have lel : ((fs ++ ss).map V.str).length = fs.length + ss.length := by rw [List.length_map, List.length_append]
 refine ⟨_, rfl, cu, _, rfl, .inl (SqL.of (g2 _ _ Qab)), _, _, rfl, rfl, ⟨by decide, by decide⟩, _, rfl, by omega, by omega, ?_⟩
 refine Qbh (fun i σ H' => ∃ (o7 o10 o11 o12 o13 : Option V) (R : List Rw), σ = [some (.ref a), some (.ref fl), some (.ref sl), some (.int (ns.getD 1 0)), some (.int (m % ((fs.map V.str).length : Int))), some (.ref x3), some (.ref p), o7, some (.ref cu), some (.ref ev), o10, o11, o12, o13] ∧ Same H H' ∧ H' cu = some (.lst (ds.map V.int)) ∧ H' ev = some (.lst ((fs ++ ss).map V.str)) ∧ H' p = some (.lst (rfw R)) ∧ RW H' fs (fs ++ ss) R ∧ Rk fs R ∧ R.length ≤ 6 + i) ⟨_, _, _, _, _, R, rfl, e12, g2 _ _ Qab, Qab, hp2, (hR.same g1).same g2, hRk, by omega⟩ ?_ ?_
 ·clear hpp hR hRl hRk hp2 e12 g1 g2 hcu hev e
  rintro i σ H2 hi ⟨o7, o10, o11, o12, o13, R, rfl, e, hcc, hee, hpp, hR, hRk, hRl⟩
  have hi2 : 2 * i + 1 < ds.length := by omega
  obtain ⟨c1, _, hc1⟩ := Qil (ws := ds) (i := 2 * (0 + (i : Int))) (by omega) (by omega)
  obtain ⟨c2, mc2, hc2⟩ := Qil (ws := ds) (i := 2 * (0 + (i : Int)) + 1) (by omega) (by omega)
  refine ⟨_, rfl, _, rfl, _, _, rfl, rfl, Qdi (by omega) (by omega) (by omega) (by omega), .inl ⟨cu, _, _, _, rfl, rfl, SqL.of hcc, hc1, ?_⟩⟩
  refine ⟨_, rfl, _, rfl, c1, 48271, rfl, by decide, fun n1 a0 a1 => ⟨_, rfl, ev, _, rfl, .inl (SqL.of hee), _, _, rfl, rfl, (by show (0 : Int) < (((fs ++ ss).map V.str).length : Int); omega), ?_⟩⟩
  obtain ⟨h, hh, hw⟩ := Qdp (ws := fs ++ ss) (i := n1 % (((fs ++ ss).map V.str).length : Int)) (Int.emod_nonneg _ (by omega)) (by have := Int.emod_lt_of_pos n1 (show (0 : Int) < (((fs ++ ss).map V.str).length : Int) by omega); rw [List.length_map] at this ⊢; exact this)
  refine .inl ⟨ev, _, _, _, rfl, rfl, SqL.of hee, hw, ?_⟩
  refine ⟨_, rfl, _, rfl, c1, 69621, rfl, by decide, fun n2 b0 b1 => ⟨_, rfl, fl, _, rfl, .inl (SqL.of (e _ _ P.f)), _, _, rfl, rfl, (by show (0 : Int) < ((fs.map V.str).length : Int); omega), ?_⟩⟩
  obtain ⟨f, fm, hf⟩ := Qdp (ws := fs) (i := n2 % ((fs.map V.str).length : Int)) (Int.emod_nonneg _ (by omega)) (by rw [← lfm]; exact Int.emod_lt_of_pos _ (by omega))
  refine .inl ⟨fl, _, _, _, rfl, rfl, SqL.of (e _ _ P.f), hf, ?_⟩
  refine ⟨_, rfl, c1, 16807, rfl, by decide, fun n3 d0 d1 => ⟨_, rfl, p, _, rfl, .inl (SqL.of hpp), _, _, rfl, rfl, _, _, rfl, rfl, (by show (0 : Int) < ((rfw R).length : Int) + 1; omega), ?_⟩⟩
  have w0 := Int.emod_nonneg n3 (show ((rfw R).length : Int) + 1 ≠ 0 by omega)
  have w1 := Int.emod_lt_of_pos n3 (show 0 < ((rfw R).length : Int) + 1 by omega)
  have hk : ((n3 % (((rfw R).length : Int) + 1)).toNat : Int) = n3 % (((rfw R).length : Int) + 1) := Int.toNat_of_nonneg w0
  refine ⟨_, rfl, .inl ⟨rfl, _, SqL.of hpp⟩, _, rfl, _, rfl, _, rfl, _, rfl, _, rfl, _, _, rfl, rfl, Qdi (by omega) (by omega) (by omega) (by omega), _, _, rfl, rfl, .inl ⟨cu, _, _, _, rfl, rfl, SqL.of hcc, hc2, c2, rfl, hb c2 (mds c2 mc2), fun n hn1 hn2 => ⟨(by show 3 ≤ sizeLine; decide), fun y hy => ?_⟩⟩⟩
  have fy := Qac (o := tup3 (y, h, f, n)) hy
  refine ⟨p, _, (n3 % (((rfw R).length : Int) + 1)).toNat, _, rfl, congrArg (fun z => [V.int z, V.ref y]) hk.symm, fy _ _ hpp, (by omega), (by rw [Qbc]; omega), ?_⟩
  rw [Qlv R _ (y, h, f, n)]
  refine ⟨_, _, _, _, _, R.take (n3 % (((rfw R).length : Int) + 1)).toNat ++ (y, h, f, n) :: R.drop (n3 % (((rfw R).length : Int) + 1)).toNat, rfl, Qbo (e.trans fy) hp0, (by rw [Qar ncp]; exact fy _ _ hcc), (by rw [Qar nep]; exact fy _ _ hee), Qab, fun z hz => ?_, hRk.sub (fun z hz => Qmd hz), (by rw [List.length_append, List.length_cons, List.length_take, List.length_drop]; omega)⟩
  rcases List.mem_append.mp hz with c | c
  ·exact ⟨Qbn (fy _ _ (hR z (List.mem_of_mem_take c)).1) (fy _ _ hpp), (hR z (List.mem_of_mem_take c)).2⟩
  ·rcases List.mem_cons.mp c with c | c
   ·rw [c]
    exact ⟨Qbn Qab (fy _ _ hpp), hh, fm, hn1, hn2⟩
   ·exact ⟨Qbn (fy _ _ (hR z (List.mem_of_mem_drop c)).1) (fy _ _ hpp), (hR z (List.mem_of_mem_drop c)).2⟩
 rintro σ H2 ⟨o7', o10', o11', o12, o13, R', rfl, e', hcc, hee, hpp', hR', hRk', hRl'⟩
 exact ⟨_, rfl, q p R' _ e' hp0 hpp' hR' hRk' (by omega)⟩
theorem scag0 : FnScope ["_law_rows", "_law_holder", "_law_firm"] ["_law_rows", "_law_holder", "_law_firm"] (defScope sag0) := fsc
theorem okag0 (D : Def K mg "_law_held" sag0 .none) (z_sum : mg "sum" = none) : Cal P w K mg base CX0 true 1 "_law_held" ["_law_rows", "_law_holder", "_law_firm"] [] spHeld := by
 obtain ⟨f, fd, F, hm⟩ := D
 refine ⟨f, fd, _, F.ok scag0 (fun vs H Q E h => ?_) (fun cdv A outer s H vs Q E hr h => ?_), hm, F.kp, (F.b3), .nil, F.b3⟩
 ·obtain ⟨l, R, h, f, fs, es, rfl, hl, hR, hlen, q⟩ := h
  rfl
 obtain ⟨l, R, h, f, fs, es, rfl, hl, hR, hlen, q⟩ := h
 have nd := scag0.nd
 refine ⟨_, (Qag (Qat (Qao (Qct hr) rfl z_sum Qed (Qaa (Qck [1, 2] rfl (LcOk.free ["_law_holder", "_law_firm"] rfl rfl (List.forall_mem_cons.mpr ⟨rfl, (List.forall_mem_cons.mpr ⟨rfl, (fun _ h => nomatch h)⟩)⟩) (by decide+kernel) rfl (by decide+kernel) rfl (by decide+kernel) (show (["_law_row", "_law_holder", "_law_firm"] : List Str).Nodup from by decide+kernel) (List.forall_mem_cons.mpr ⟨⟨_, rfl, rfl, rfl, by decide+kernel⟩, (List.forall_mem_cons.mpr ⟨⟨_, rfl, rfl, rfl, by decide+kernel⟩, (fun _ h => nomatch h)⟩)⟩)) (Qax (pv 0)) (fun C s2 H2 fp xe => (PW.pt (Qgm (Qap Qb7 (Qam Qa0 (pv 0) Qaf (fun _ _ => rfl)) (pv 1) (nomark _)) (Qel (Qap Qb7 (Qam Qa0 (pv 0) Qaf (fun _ _ => rfl)) (pv 2) (nomark _)))))) (fun C s2 H2 fp xe => (Qam Qa0 (pv 0) Qaf (fun _ _ => rfl)))) Qad)))), ?_⟩
 have hline : 10 ^ 6 ≤ sizeLine := by decide
 refine ⟨_, rfl, l, rfl, ⟨_, SqL.of hl⟩, ?_⟩
 refine Qbj (xs := rfw R) (fun j ys H5 => ys = (((R.take j).filter (hpB h f)).map (·.2.2.2)).map V.int ∧ H5 = H) ⟨rfl, rfl⟩ (by rw [Qbc]; omega) ?_ ?_ ?_
 ·rintro j ys H5 hj ⟨rfl, rfl⟩
  refine ⟨SqL.of hl, ?_⟩
  rw [List.length_map, List.length_map]
  have h1 := List.length_filter_le (hpB h f) (R.take j)
  rw [List.length_take] at h1
  omega
 ·rintro j x ys H5 hx ⟨rfl, rfl⟩
  obtain ⟨y, hy, rfl⟩ := Qcv hx
  have hTy := SqT.of (K := K) (hR y (List.mem_of_getElem? hy)).1
  refine ⟨_, rfl, .inr (.inl ⟨y.1, _, 0, _, rfl, rfl, hTy, rfl, _, rfl, rfl, _, rfl, ?_⟩)⟩
  refine dec2 (fun h1 => ?_) (fun h1 => ?_)
  ·refine ⟨_, rfl, .inr (.inl ⟨y.1, _, 1, _, rfl, rfl, hTy, rfl, _, rfl, rfl, _, rfl, ?_⟩)⟩
   refine dec2 (fun h2 => ?_) (fun h2 => ?_)
   ·refine ⟨_, rfl, .inr (.inl ⟨y.1, _, 2, _, rfl, rfl, hTy, rfl, ?_, rfl⟩)⟩
    rw [Qaw hy, List.filter_append, List.filter_cons_of_pos (by simp [hpB, V.str.inj h1, V.str.inj h2]), List.map_append, List.map_append]
    rfl
   ·refine ⟨?_, rfl⟩
    have n : ¬ y.2.2.1 = f := fun z => h2 (congrArg V.str z)
    rw [Qaw hy, List.filter_append, List.filter_cons_of_neg (by simp [hpB, n])]
    simp
  ·refine iteF ⟨?_, rfl⟩
   have n : ¬ y.2.1 = h := fun z => h1 (congrArg V.str z)
   rw [Qaw hy, List.filter_append, List.filter_cons_of_neg (by simp [hpB, n])]
   simp
 rintro ys H5 ⟨rfl, rfl⟩ k1 hk1
 rw [Qbc, List.take_length]
 exact ⟨k1, _, rfl, SqL.of Qab, q _ (Qac hk1)⟩
theorem Qiz {fs : List Str} {R : List Rw} {k : Nat} {f : Str} (hf : fs[k]? = some f) : (fs.map (dueR fs R)).getD k [] = dueR fs R f := by
 rw [List.getD_eq_getElem?_getD, List.getElem?_map, hf]
 rfl
theorem Qiy {fs : List Str} {R : List Rw} {f h : Str} {j : Nat} (hj : fs[j]? = some h) : N45.gt (dueR fs R f) j = (if h = f then alls R f else 0) - held R h f := by
 unfold N45.gt dueR
 rw [List.getD_eq_getElem?_getD, List.getElem?_map, hj]
 rfl
def outr (R : List Rw) (f : Str) (p : Str → Bool) : Int := (R.map fun z => if z.2.2.1 = f then (if p z.2.1 = true then 0 else z.2.2.2) else 0).sum
theorem Qdt (z : Rw) (R : List Rw) (f : Str) (p : Str → Bool) : outr (z :: R) f p = (if z.2.2.1 = f then (if p z.2.1 = true then 0 else z.2.2.2) else 0) + outr R f p := by
 unfold outr
 rw [List.map_cons, List.sum_cons]
theorem Qft {f : Str} {p : Str → Bool} : ∀ {R : List Rw}, (∀ z ∈ R, 1 ≤ z.2.2.2) → 0 ≤ outr R f p
 | [], _ => Int.le_refl _
 | z :: R, h => by
   rw [Qdt]
   have := Qft (f := f) (p := p) fun y hy => h y (List.mem_cons_of_mem _ hy)
   have := h z List.mem_cons_self
   split
   ·split <;> omega
   ·omega
theorem Qgt {f : Str} {p : Str → Bool} {y : Rw} (hf : y.2.2.1 = f) (hp : ¬ p y.2.1 = true) : ∀ {R : List Rw}, (∀ z ∈ R, 1 ≤ z.2.2.2) → y ∈ R → 0 < outr R f p
 | [], _, hy => nomatch hy
 | z :: R, h, hy => by
   rw [Qdt]
   have a := Qft (f := f) (p := p) fun y hy => h y (List.mem_cons_of_mem _ hy)
   have b := h z List.mem_cons_self
   rcases List.mem_cons.mp hy with e | hy
   ·subst e
    rw [if_pos hf, if_neg hp]
    omega
   ·have := Qgt hf hp (fun y hy => h y (List.mem_cons_of_mem _ hy)) hy
    split
    ·split <;> omega
    ·omega
theorem sum_p {fs : List Str} {p : Str → Bool} (hn : fs.Nodup) (hp : ∀ x, p x = true → x ∈ fs) (a : Str) (x : Int) : (fs.map fun h => if p h = true then (if a = h then x else 0) else 0).sum = if p a = true then x else 0 := by
 by_cases c : p a = true
 ·rw [if_pos c]
  have e : (fun h => if p h = true then (if a = h then x else 0) else 0) = fun h => if a = h then x else 0 := funext fun h => by
   by_cases d : a = h
   ·subst d
    rw [if_pos c]
   ·rw [if_neg d]
    split <;> rfl
  rw [e, Qin x hn (hp a c)]
 ·rw [if_neg c]
  have e : (fun h => if p h = true then (if a = h then x else 0) else 0) = fun _ => (0 : Int) := funext fun h => by
   by_cases d : a = h
   ·subst d
    rw [if_neg c]
   ·rw [if_neg d]
    split <;> rfl
  rw [e, Qef]
theorem Qk9 {fs : List Str} {p : Str → Bool} (hn : fs.Nodup) (hp : ∀ x, p x = true → x ∈ fs) (f : Str) : ∀ R : List Rw, alls R f - (fs.map fun h => if p h = true then held R h f else 0).sum = outr R f p
 | [] => by
   have e : (fun h => if p h = true then held [] h f else 0) = fun _ => (0 : Int) := funext fun h => by split <;> rfl
   rw [e, Qef]
   rfl
 | z :: R => by
   have e : (fun h => if p h = true then held (z :: R) h f else 0) = fun h => (if p h = true then (if z.2.1 = h then (if z.2.2.1 = f then z.2.2.2 else 0) else 0) else 0) + (if p h = true then held R h f else 0) := funext fun h => by
    rw [Qda]
    split <;> rfl
   rw [e, Qhl, sum_p hn hp, Qd2, Qdt, ← Qk9 hn hp f R]
   generalize (fs.map fun h => if p h = true then held R h f else 0).sum = s
   by_cases a : z.2.2.1 = f
   ·rw [if_pos a, if_pos a]
    split <;> omega
   ·rw [if_neg a, if_neg a]
    split <;> omega
theorem Qlr (fs : List Str) (g : Str → Int) (F : Nat → Int) (h : ∀ j x, fs[j]? = some x → F j = g x) : N45.sm fs.length F = (fs.map g).sum := by
 rw [← N45.Qgf]
 refine congrArg List.sum (List.ext_getElem? fun j => ?_)
 rw [List.getElem?_map, List.getElem?_map]
 by_cases c : j < fs.length
 ·rw [List.getElem?_range c, List.getElem?_eq_getElem c]
  exact congrArg some (h j _ (List.getElem?_eq_getElem c))
 ·rw [List.getElem?_eq_none (by rw [List.length_range]; omega), List.getElem?_eq_none (by omega)]
  rfl
def pN (fs : List Str) (N : Nat → Bool) (x : Str) : Bool := (List.range fs.length).any fun j => decide (fs[j]? = some x) && N j
theorem Qgs {fs : List Str} {N : Nat → Bool} {x : Str} : pN fs N x = true ↔ ∃ j, fs[j]? = some x ∧ N j = true := by
 unfold pN
 rw [List.any_eq_true]
 constructor
 ·rintro ⟨j, _, h⟩
  rw [Bool.and_eq_true, decide_eq_true_eq] at h
  exact ⟨j, h⟩
 ·rintro ⟨j, h1, h2⟩
  exact ⟨j, List.mem_range.mpr (List.getElem?_eq_some_iff.mp h1).1, by rw [Bool.and_eq_true, decide_eq_true_eq]; exact ⟨h1, h2⟩⟩
theorem Ql2 {fs : List Str} (hn : fs.Nodup) {i j : Nat} {x : Str} (h1 : fs[i]? = some x) (h2 : fs[j]? = some x) : i = j := by
 obtain ⟨a1, b1⟩ := List.getElem?_eq_some_iff.mp h1
 obtain ⟨a2, b2⟩ := List.getElem?_eq_some_iff.mp h2
 exact (List.getElem_inj hn).mp (b1.trans b2.symm)
theorem Qlb {fs : List Str} {R : List Rw} (hn : fs.Nodup) (N : Nat → Bool) {k : Nat} {f : Str} (hf : fs[k]? = some f) (hk : N k = true) : N45.sN (fs.map (dueR fs R)) N k = outr R f (pN fs N) := by
 have pf : pN fs N f = true := Qgs.mpr ⟨k, hf, hk⟩
 have pm : ∀ x, pN fs N x = true → x ∈ fs := fun x h => by
  obtain ⟨j, hj, _⟩ := Qgs.mp h
  exact List.mem_of_getElem? hj
 unfold N45.sN
 rw [Qiz hf, List.length_map, Qlr fs (fun h => (if pN fs N h = true then (if f = h then alls R f else 0) else 0) - (if pN fs N h = true then held R h f else 0)) _ fun j x hj => ?_]
 ·rw [Qhk, sum_p hn pm, if_pos pf, Qk9 hn pm]
 ·have e : N j = pN fs N x := by
   rw [Bool.eq_iff_iff, Qgs]
   constructor
   ·exact fun h => ⟨j, hj, h⟩
   ·rintro ⟨i, hi, h⟩
    rw [Ql2 hn hj hi]
    exact h
  rw [Qiy hj, e]
  by_cases c : pN fs N x = true
  ·rw [if_pos c, if_pos c, if_pos c]
   by_cases d : x = f
   ·rw [if_pos d, if_pos d.symm]
   ·rw [if_neg d, if_neg (Ne.symm d)]
  ·rw [if_neg c, if_neg c, if_neg c]
   rfl
theorem Qa4 {α : Type} {l : List α} {k : Nat} (h : k < l.length) : ∃ x, l[k]? = some x := ⟨l[k], List.getElem?_eq_getElem h⟩
theorem Qfx {R : List Rw} (h1 : ∀ z ∈ R, 1 ≤ z.2.2.2) (h f : Str) : 0 ≤ held R h f := by
 induction R with
 | nil => exact Int.le_refl _
 | cons z R ih =>
   rw [Qda]
   have := ih fun y hy => h1 y (List.mem_cons_of_mem _ hy)
   have := h1 z List.mem_cons_self
   split
   ·split <;> omega
   ·omega
theorem Qir {R : List Rw} (h1 : ∀ z ∈ R, 1 ≤ z.2.2.2) (h2 : ∀ z ∈ R, z.2.2.2 ≤ 1000000) (h f : Str) : held R h f ≤ alls R f ∧ alls R f ≤ 1000000 * R.length := by
 induction R with
 | nil => exact ⟨Int.le_refl _, Int.le_refl _⟩
 | cons z R ih =>
   rw [Qda, Qd2, List.length_cons]
   have := ih (fun y hy => h1 y (List.mem_cons_of_mem _ hy)) fun y hy => h2 y (List.mem_cons_of_mem _ hy)
   have := h1 z List.mem_cons_self
   have := h2 z List.mem_cons_self
   constructor
   ·split
    ·split <;> omega
    ·split <;> omega
   ·split <;> omega
theorem Qeb {fs : List Str} {R : List Rw} (hn : fs.Nodup) (h1 : ∀ z ∈ R, 1 ≤ z.2.2.2) (hk : Rk fs R) : N45.Mm (fs.map (dueR fs R)) := by
 have ll : (fs.map (dueR fs R)).length = fs.length := List.length_map ..
 refine ⟨fun k hk j hj hne => ?_, fun N k hk hN => ?_, fun N => ?_⟩
 ·rw [ll] at hk hj
  obtain ⟨f, hf⟩ := Qa4 hk
  obtain ⟨h, hh⟩ := Qa4 hj
  rw [Qiz hf, Qiy hh, if_neg fun e => hne (Ql2 hn hf (by rw [← e]; exact hh))]
  have := Qfx h1 h f
  omega
 ·rw [ll] at hk
  obtain ⟨f, hf⟩ := Qa4 hk
  rw [Qlb hn N hf hN]
  exact Qft h1
 ·rintro ⟨k, hkl, hN⟩
  rw [ll] at hkl ⊢
  obtain ⟨rank, hr⟩ := hk
  have key : ∀ n k f, fs[k]? = some f → N k = true → rank f < n → ∃ k, k < fs.length ∧ N k = true ∧ 0 < N45.sN (fs.map (dueR fs R)) N k := by
   intro n
   induction n with
   | zero => exact fun k f _ _ h => absurd h (Nat.not_lt_zero _)
   | succ n ih =>
     intro k f hf hN hlt
     obtain ⟨z, hz, q1, q2⟩ := hr f (List.mem_of_getElem? hf)
     by_cases c : pN fs N z.2.1 = true
     ·obtain ⟨j, hj, hNj⟩ := Qgs.mp c
      rcases q2 with q2 | q2
      ·exact absurd (List.mem_of_getElem? hj) q2
      ·exact ih j z.2.1 hj hNj (by omega)
     ·exact ⟨k, (List.getElem?_eq_some_iff.mp hf).1, hN, by rw [Qlb hn N hf hN]; exact Qgt q1 c h1 hz⟩
  obtain ⟨f, hf⟩ := Qa4 hkl
  exact key _ k f hf hN (Nat.lt_succ_self _)
theorem Qix {fs : List Str} {R : List Rw} (h1 : ∀ z ∈ R, 1 ≤ z.2.2.2) (h2 : ∀ z ∈ R, z.2.2.2 ≤ 1000000) (hl : R.length ≤ 62) : N45.Squ (fs.map (dueR fs R)) 26 := by
 refine ⟨fun r hr => ?_, fun r hr x hx => ?_, by decide⟩
 ·obtain ⟨f, _, rfl⟩ := List.mem_map.mp hr
  rw [List.length_map]
  exact List.length_map ..
 ·obtain ⟨f, _, rfl⟩ := List.mem_map.mp hr
  obtain ⟨h, _, rfl⟩ := List.mem_map.mp hx
  have a := Qfx h1 h f
  have b := Qir h1 h2 h f
  unfold N45.Bt
  split <;> omega
theorem ex26 {m : Nat} (h : m ≤ 6) : N45.ex 26 m ≤ 1990 := by
 have : m = 0 ∨ m = 1 ∨ m = 2 ∨ m = 3 ∨ m = 4 ∨ m = 5 ∨ m = 6 := by omega
 rcases this with rfl | rfl | rfl | rfl | rfl | rfl | rfl <;> decide
theorem Qbv {α : Type} [BEq α] [LawfulBEq α] : ∀ (l A : List α), l.Nodup → (∀ x ∈ l, x ∈ A) → l.length ≤ A.length
 | [], _, _, _ => Nat.zero_le _
 | a :: r, A, h, hs => by
   have h1 := List.nodup_cons.mp h
   have h2 := Qbv r (A.erase a) h1.2 fun x hx => (List.mem_erase_of_ne (fun e => h1.1 (by rw [← e]; exact hx))).mpr (hs x (List.mem_cons_of_mem _ hx))
   have h3 := List.length_erase_of_mem (hs a List.mem_cons_self)
   have h4 := List.length_pos_of_mem (hs a List.mem_cons_self)
   rw [List.length_cons]
   omega
theorem Qgx {l : List Str} (h : l.Pairwise (fun a b => ltS a b = true)) : l.Nodup := h.imp fun e => ltS_ne e
def kd (D : List (Str × Int)) : List (Key × V) := D.map fun p => (Sum.inr p.1, .int p.2)
theorem Qk7 (D : List (Str × Int)) : (kd D).length = D.length := List.length_map ..
theorem Qk8 (A B : List (Str × Int)) : kd (A ++ B) = kd A ++ kd B := List.map_append ..
def lv (D : List (Str × Int)) (x : Str) : Option Int := D.lookup x
theorem Qif (D : List (Str × Int)) (x : Str) : valV (kd D) (Sum.inr x) = (lv D x).map V.int := by
 induction D with
 | nil => rfl
 | cons p D ih =>
   obtain ⟨a, b⟩ := p
   unfold lv at ih ⊢
   unfold kd valV at *
   by_cases h : a = x
   ·subst h
    simp
   ·have hb : (x == a) = false := by simpa using fun e : x = a => h e.symm
    rw [List.lookup, hb]
    simp [h] at ih ⊢
    exact ih
theorem Ql4 {D : List (Str × Int)} {x : Str} : (lv D x).isSome = true ↔ x ∈ D.map (·.1) := by
 induction D with
 | nil => simp [lv]
 | cons p D ih =>
   obtain ⟨a, b⟩ := p
   unfold lv at ih ⊢
   by_cases h : x = a
   ·subst h
    simp
   ·have hb : (x == a) = false := by simpa using h
    rw [List.lookup, hb]
    simp only [List.map_cons, List.mem_cons]
    rw [ih]
    simp [h]
def lead (fs : List Str) (R : List Rw) (D : List (Str × Int)) (f : Str) : Prop := ∃ z ∈ R, z.2.2.1 = f ∧ (z.2.1 ∉ fs ∨ z.2.1 ∈ D.map (·.1))
instance {fs : List Str} {R : List Rw} {D : List (Str × Int)} {f : Str} : Decidable (lead fs R D f) := by unfold lead; infer_instance
def spLead : Sp := fun vs H Q _ => ∃ (fl l d : Addr) (fs : List Str) (R : List Rw) (D : List (Str × Int)) (f : Str) (gs es : List Str), vs = [.ref fl, .ref l, .str f, .ref d] ∧ H fl = some (.lst (fs.map V.str)) ∧ H l = some (.lst (rfw R)) ∧ RX H gs es R ∧ R.length ≤ 62 ∧ H d = some (.dK (kd D)) ∧ ∀ H', Same H H' → Q (.bl (decide (lead fs R D f))) H'
theorem scbd0 : FnScope ["firms", "rows", "firm", "levels"] ["firms", "rows", "firm", "levels"] (defScope sbd0) := fsc
theorem okbd0 (D : Def K mg "leads_on" sbd0 .none) (cbj0 : Cal P w K mg base CX0 true 1 "owners_of" ["rows", "firm"] [] spOwn) (z_any : mg "any" = none) : Cal P w K mg base CX0 true 2 "leads_on" ["firms", "rows", "firm", "levels"] [] spLead := by
 obtain ⟨f, fd, F, hm⟩ := D
 obtain ⟨fbj0, fdbj0, dbj0, Gbj0, mbj0, kbj0, bbj0, vbj0, bbj01⟩ := cbj0
 refine ⟨f, fd, _, F.ok scbd0 (fun vs H Q E h => ?_) (fun cdv A outer s H vs Q E hr h => ?_), hm, F.kp, (F.b4), .nil, F.b4⟩
 ·obtain ⟨fl, l, d, fs, R, D, f, gs, es, rfl, hfl, hl, hR, hlen, hd, q⟩ := h
  rfl
 obtain ⟨fl, l, d, fs, R, D, f, gs, es, rfl, hfl, hl, hR, hlen, hd, q⟩ := h
 have nd := scbd0.nd
 refine ⟨_, (Qag (Qat (Qao (Qg7 hr) rfl z_any Qlh (Qaa (Qc2 [0, 3] rfl (LcOk.free ["levels", "firms"] rfl rfl (List.forall_mem_cons.mpr ⟨rfl, (List.forall_mem_cons.mpr ⟨rfl, (fun _ h => nomatch h)⟩)⟩) (by decide+kernel) rfl (by decide+kernel) rfl (by decide+kernel) (show (["owner", "firms", "levels"] : List Str).Nodup from by decide+kernel) (List.forall_mem_cons.mpr ⟨⟨_, rfl, rfl, rfl, by decide+kernel⟩, (List.forall_mem_cons.mpr ⟨⟨_, rfl, rfl, rfl, by decide+kernel⟩, (fun _ h => nomatch h)⟩)⟩)) (Qax (Qah Gbj0 (hr.mono (by decide)) rfl mbj0 kbj0 bbj0 Paired.nil pass0 (Qaa (pv 1) (Qaa (pv 2) Qad)))) (fun C s2 H2 fp xe => (pe_or (Qcl Qcc (pv 0) (pv 1) (by with_unfolding_all rfl)) (Qhz (pe_cmp (pc_din (Qmf hr) (pv 0) (pv 2))))))) Qad)))), ?_⟩
 have hline : 10 ^ 6 ≤ sizeLine := by decide
 refine ⟨_, rfl, _, rfl, l, R, f, gs, es, rfl, hl, hR, hlen, fun p zs H1 e1 hp0 hp mm pw => ⟨p, rfl, ⟨_, SqL.of hp⟩, ?_⟩⟩
 have lz : zs.length ≤ 62 := by
  have h1 := Qbv zs (R.map (·.2.1)) (Qgx pw) fun x hx => by
   obtain ⟨z, hz, _, h2⟩ := (mm x).mp hx
   exact List.mem_map.mpr ⟨z, hz, h2⟩
  rw [List.length_map] at h1
  omega
 have lzm : (zs.map V.str).length = zs.length := List.length_map ..
 refine Qbz (xs := zs.map V.str) (fun j ys H' => ys = ((zs.take j).map fun x => decide (x ∉ fs ∨ x ∈ D.map (·.1))).map V.bl ∧ H' = H1) ⟨rfl, rfl⟩ (by omega) ?_ ?_ ?_
 ·rintro j ys H5 hj ⟨rfl, rfl⟩
  refine ⟨SqL.of hp, ?_⟩
  rw [List.length_map, List.length_map, List.length_take]
  omega
 ·rintro j x ys H5 hx ⟨rfl, rfl⟩
  obtain ⟨h, hh, rfl⟩ := Qbu hx
  have fin : ∀ b, b = decide (h ∉ fs ∨ h ∈ D.map (·.1)) → ((zs.take j).map fun x => decide (x ∉ fs ∨ x ∈ D.map (·.1))).map V.bl ++ [V.bl b] = ((zs.take (j + 1)).map fun x => decide (x ∉ fs ∨ x ∈ D.map (·.1))).map V.bl := fun b e => by
   rw [Qaw hh, List.map_append, List.map_append, e]
   rfl
  refine ⟨_, rfl, _, rfl, fl, _, rfl, .inl (SqL.of (e1 _ _ hfl)), rfl, Qb2 _, _, rfl, ?_⟩
  rw [Qb3]
  refine ndec2 (fun h2 => ?_) (fun h2 => ?_)
  ·exact ⟨fin true (decide_eq_true (.inl h2)).symm, rfl⟩
  ·refine ⟨_, rfl, _, rfl, d, _, rfl, DGet.k (k := Sum.inr h) (e1 _ _ hd), fin _ ?_, rfl⟩
   rw [Qif, Option.isSome_map, Bool.eq_iff_iff, Ql4, decide_eq_true_eq]
   exact ⟨.inr, fun w => w.elim (fun w => absurd h2 w) id⟩
 rintro ys H5 ⟨rfl, rfl⟩ k1 hk1
 rw [lzm, List.take_length]
 refine ⟨k1, _, rfl, SqL.of Qab, ?_⟩
 have ev : (zs.map fun x => decide (x ∉ fs ∨ x ∈ D.map (·.1))).any id = decide (lead fs R D f) := by
  rw [Bool.eq_iff_iff, List.any_map, List.any_eq_true, decide_eq_true_eq]
  constructor
  ·rintro ⟨x, hx, h⟩
   obtain ⟨z, hz, h1, h2⟩ := (mm x).mp hx
   have h3 : x ∉ fs ∨ x ∈ D.map (·.1) := of_decide_eq_true h
   exact ⟨z, hz, h1, by rw [h2]; exact h3⟩
  ·rintro ⟨z, hz, h1, h2⟩
   exact ⟨z.2.1, (mm z.2.1).mpr ⟨z, hz, h1, rfl⟩, decide_eq_true h2⟩
 rw [ev]
 exact q _ (e1.trans (Qac hk1))
theorem Qjv {kvs : List (Key × V)} {k : Key} {v : V} (h : k ∉ kvs.map (·.1)) : putK kvs k v = kvs ++ [(k, v)] := by
 unfold putK
 rw [if_neg]
 rw [List.any_eq_true]
 rintro ⟨p, hp, e⟩
 exact h (by rw [← of_decide_eq_true e]; exact List.mem_map_of_mem hp)
theorem Qdd : ∀ {ps kvs : List (Key × V)}, ((kvs ++ ps).map (·.1)).Nodup → putAll kvs ps = kvs ++ ps
 | [], kvs, _ => (List.append_nil _).symm
 | p :: r, kvs, h => by
   have h1 : p.1 ∉ kvs.map (·.1) := fun m => by
    rw [List.map_append, List.map_cons] at h
    exact (List.nodup_append.mp h).2.2 p.1 m p.1 (.head _) rfl
   show putAll (putK kvs p.1 p.2) r = _
   rw [Qjv h1, Qdd (kvs := kvs ++ [(p.1, p.2)]) (by rw [List.append_assoc]; exact h), List.append_assoc]
   rfl
theorem Qma (D : List (Str × Int)) : (kd D).map (·.1) = (D.map (·.1)).map Sum.inr := by
 unfold kd
 rw [List.map_map, List.map_map]
 rfl
theorem kd_nd {D : List (Str × Int)} (h : (D.map (·.1)).Nodup) : ((kd D).map (·.1)).Nodup := by
 rw [Qma, List.nodup_iff_pairwise_ne, List.pairwise_map]
 exact (List.nodup_iff_pairwise_ne.mp h).imp fun hne e => hne (Sum.inr.inj e)
structure LI (fs : List Str) (R : List Rw) (D : List (Str × Int)) (n : Nat) : Prop where
 nd : (D.map (·.1)).Nodup
 sub : ∀ p ∈ D, p.1 ∈ fs ∧ 0 ≤ p.2 ∧ p.2 < n
 lvl : ∀ f k, (f, k) ∈ D → (k = 0 ∧ ∃ z ∈ R, z.2.2.1 = f ∧ z.2.1 ∉ fs) ∨ (1 ≤ k ∧ (∀ z ∈ R, z.2.2.1 = f → z.2.1 ∈ fs) ∧ (∃ z ∈ R, z.2.2.1 = f ∧ (z.2.1, k - 1) ∈ D) ∧ ∀ z ∈ R, z.2.2.1 = f → ∀ j, (z.2.1, j) ∈ D → k - 1 ≤ j)
 old : 1 ≤ n → ∀ f ∈ fs, f ∉ D.map (·.1) → ∀ z ∈ R, z.2.2.1 = f → z.2.1 ∈ fs ∧ ∀ j, (z.2.1, j) ∈ D → (n : Int) - 1 ≤ j
def fnd (fs : List Str) (R : List Rw) (D : List (Str × Int)) : List Str := fs.filter fun f => decide (f ∉ D.map (·.1)) && decide (lead fs R D f)
theorem Qdy {fs : List Str} {R : List Rw} {D : List (Str × Int)} {f : Str} : f ∈ fnd fs R D ↔ f ∈ fs ∧ f ∉ D.map (·.1) ∧ lead fs R D f := by
 unfold fnd
 rw [List.mem_filter, Bool.and_eq_true, decide_eq_true_eq, decide_eq_true_eq]
theorem Qe6 {D : List (Str × Int)} {x : Str} {j : Int} (h : (x, j) ∈ D) : x ∈ D.map (·.1) := List.mem_map.mpr ⟨_, h, rfl⟩
theorem LI.next {fs : List Str} {R : List Rw} {D : List (Str × Int)} {n : Nat} (hn : fs.Nodup) (L : LI fs R D n) : LI fs R (D ++ (fnd fs R D).map fun f => (f, (n : Int))) (n + 1) := by
 have kn : ((fnd fs R D).map fun f => (f, (n : Int))).map (·.1) = fnd fs R D := by
  rw [List.map_map]
  exact List.map_id _
 have hm : ∀ {x : Str} {j : Int}, (x, j) ∈ D ++ (fnd fs R D).map (fun f => (f, (n : Int))) → (x, j) ∈ D ∨ (x ∈ fnd fs R D ∧ j = n) := fun h => by
  rcases List.mem_append.mp h with h | h
  ·exact .inl h
  ·obtain ⟨f, hf, e⟩ := List.mem_map.mp h
   cases e
   exact .inr ⟨hf, rfl⟩
 refine ⟨?_, fun p hp => ?_, fun f k h => ?_, fun _ f hf hk z hz hzf => ?_⟩
 ·rw [List.map_append, kn]
  refine List.nodup_append.mpr ⟨L.nd, hn.filter _, fun x hx y hy e => ?_⟩
  exact (Qdy.mp hy).2.1 (by rw [← e]; exact hx)
 ·obtain ⟨x, j⟩ := p
  rcases hm hp with h | ⟨h, rfl⟩
  ·have := L.sub _ h
   exact ⟨this.1, this.2.1, by have := this.2.2; dsimp only at this ⊢; omega⟩
  ·exact ⟨(Qdy.mp h).1, by dsimp only; omega, by dsimp only; omega⟩
 ·rcases hm h with h | ⟨h2, rfl⟩
  ·rcases L.lvl f k h with a | ⟨a1, a2, ⟨z, hz, h1, h2⟩, a4⟩
   ·exact .inl a
   ·refine .inr ⟨a1, a2, ⟨z, hz, h1, List.mem_append_left _ h2⟩, fun z hz hzf j hj => ?_⟩
    rcases hm hj with hj | ⟨_, rfl⟩
    ·exact a4 z hz hzf j hj
    ·have := (L.sub _ h).2.2
     dsimp only at this
     omega
  ·obtain ⟨b1, b2, z0, hz0, c1, c2⟩ := Qdy.mp h2
   rcases Nat.eq_zero_or_pos n with h0 | h0
   ·subst h0
    refine .inl ⟨rfl, z0, hz0, c1, ?_⟩
    rcases c2 with c2 | c2
    ·exact c2
    ·obtain ⟨p, hp, _⟩ := List.mem_map.mp c2
     have := L.sub _ hp
     omega
   ·have o := L.old h0 f b1 b2
    refine .inr ⟨by omega, fun z hz hzf => (o z hz hzf).1, ?_, fun z hz hzf j hj => ?_⟩
    ·rcases c2 with c2 | c2
     ·exact absurd (o z0 hz0 c1).1 c2
     ·obtain ⟨p, hp, e⟩ := List.mem_map.mp c2
      obtain ⟨x, j⟩ := p
      dsimp only at e
      subst e
      have j1 := (o z0 hz0 c1).2 j hp
      have j2 := (L.sub _ hp).2.2
      dsimp only at j2
      have : j = (n : Int) - 1 := by omega
      exact ⟨z0, hz0, c1, List.mem_append_left _ (by rw [← this]; exact hp)⟩
    ·rcases hm hj with hj | ⟨_, rfl⟩
     ·exact (o z hz hzf).2 j hj
     ·omega
 ·rw [List.map_append, kn, List.mem_append, not_or] at hk
  have nl : ¬ lead fs R D f := fun w => hk.2 (Qdy.mpr ⟨hf, hk.1, w⟩)
  have hzin : z.2.1 ∈ fs := Decidable.byContradiction fun w => nl ⟨z, hz, hzf, .inl w⟩
  refine ⟨hzin, fun j hj => ?_⟩
  rcases hm hj with hj | ⟨_, rfl⟩
  ·exact absurd ⟨z, hz, hzf, .inr (Qe6 hj)⟩ nl
  ·omega
def spLev : Sp := fun vs H Q _ => ∃ (fl l : Addr) (fs : List Str) (R : List Rw) (gs es : List Str), vs = [.ref fl, .ref l] ∧ H fl = some (.lst (fs.map V.str)) ∧ fs.Nodup ∧ fs.length ≤ 8 ∧ H l = some (.lst (rfw R)) ∧ RX H gs es R ∧ R.length ≤ 62 ∧
 ∀ (d : Addr) (D : List (Str × Int)) (n : Nat) H', Same H H' → H d = none → H' d = some (.dK (kd D)) → LI fs R D n → fnd fs R D = [] → Q (.ref d) H'
theorem scbf0 : FnScope ["firms", "rows", "levels", "level", "found", "waiting"] ["firms", "rows"] (defScope sbf0) := fsc
theorem okbf0 (D : Def K mg "levels_of" sbf0 .none) (cbd0 : Cal P w K mg base CX0 true 2 "leads_on" ["firms", "rows", "firm", "levels"] [] spLead) (z_dict : mg "dict" = none) : Cal P w K mg base CX0 true 3 "levels_of" ["firms", "rows"] [] spLev := by
 obtain ⟨f, fd, F, hm⟩ := D
 obtain ⟨fbd0, fdbd0, dbd0, Gbd0, mbd0, kbd0, bbd0, vbd0, bbd01⟩ := cbd0
 refine ⟨f, fd, _, F.ok scbf0 (fun vs H Q E h => ?_) (fun cdv A outer s H vs Q E hr h => ?_), hm, F.kp, (F.b2), .nil, F.b2⟩
 ·obtain ⟨fl, l, fs, R, gs, es, rfl, hfl, hfn, hf8, hl, hR, hlen, q⟩ := h
  rfl
 obtain ⟨fl, l, fs, R, gs, es, rfl, hfl, hfn, hf8, hl, hR, hlen, q⟩ := h
 have nd := scbf0.nd
 refine ⟨_, (Qae (Qak (i := 2) nd rfl (Or.inr rfl) Qjx)
  (Qae (Qak (i := 3) nd rfl (Or.inr rfl) Qaf)
  (Qae (Qco [0, 1, 2] (i := 4) nd rfl (Or.inl rfl) rfl (LcOk.free ["rows", "levels", "firms"] rfl rfl (List.forall_mem_cons.mpr ⟨rfl, (List.forall_mem_cons.mpr ⟨rfl, (List.forall_mem_cons.mpr ⟨rfl, (fun _ h => nomatch h)⟩)⟩)⟩) (by decide+kernel) rfl (by decide+kernel) rfl (by decide+kernel) (show (["firm", "firms", "rows", "levels"] : List Str).Nodup from by decide+kernel) (List.forall_mem_cons.mpr ⟨⟨_, rfl, rfl, rfl, by decide+kernel⟩, (List.forall_mem_cons.mpr ⟨⟨_, rfl, rfl, rfl, by decide+kernel⟩, (List.forall_mem_cons.mpr ⟨⟨_, rfl, rfl, rfl, by decide+kernel⟩, (fun _ h => nomatch h)⟩)⟩)⟩)) (Qax (pv 0)) (fun C s2 H2 fp xe => (Qdh (Qah Gbd0 (hr.mono (by decide)) rfl mbd0 kbd0 bbd0 Paired.nil pass0 (Qaa (pv 1) (Qaa (pv 2) (Qaa (pv 0) (Qaa (pv 3) Qad))))))) (fun C s2 H2 fp xe => (pv 0)))
  (Qae (Qgo PassesOwn.never (Qap (Qem hr) (pv 4) (Qba Qad) (nomark _)) (Qae (Qby (Qc7 PySem.F.plainAttrs_dict PySem.F.slot_dict_update PySem.F.type_dict_update Qh5 (pv 2) (Qaa (Qbg (Qfd rfl) rfl z_dict Qmw (Qaa (Qc2 [3] rfl (LcOk.free ["level"] rfl rfl (List.forall_mem_cons.mpr ⟨rfl, (fun _ h => nomatch h)⟩) (by decide+kernel) rfl (by decide+kernel) rfl (by decide+kernel) (show (["firm", "level"] : List Str).Nodup from by decide+kernel) (List.forall_mem_cons.mpr ⟨⟨_, rfl, rfl, rfl, by decide+kernel⟩, (fun _ h => nomatch h)⟩)) (Qax (pv 4)) (fun C s2 H2 fp xe => (Qbm (Qaa (pv 0) (Qaa (pv 1) Qad))))) Qad)) Qad)))
  (Qae (Qak (i := 3) nd rfl (Or.inr rfl) (Qan Qbp (pv 3) Qaf))
  (Qae (Qco [2] (i := 5) nd rfl (Or.inl rfl) rfl (LcOk.free ["levels"] rfl rfl (List.forall_mem_cons.mpr ⟨rfl, (fun _ h => nomatch h)⟩) (by decide+kernel) rfl (by decide+kernel) rfl (by decide+kernel) (show (["firm", "levels"] : List Str).Nodup from by decide+kernel) (List.forall_mem_cons.mpr ⟨⟨_, rfl, rfl, rfl, by decide+kernel⟩, (fun _ h => nomatch h)⟩)) (Qax (pv 0)) (fun C s2 H2 fp xe => (Qkw (Qe2 (Qmf hr) (pv 0) (pv 1)))) (fun C s2 H2 fp xe => (pv 0)))
  (Qag (Qco [0, 1, 2] (i := 4) nd rfl (Or.inl rfl) rfl (LcOk.free ["rows", "levels", "firms"] rfl rfl (List.forall_mem_cons.mpr ⟨rfl, (List.forall_mem_cons.mpr ⟨rfl, (List.forall_mem_cons.mpr ⟨rfl, (fun _ h => nomatch h)⟩)⟩)⟩) (by decide+kernel) rfl (by decide+kernel) rfl (by decide+kernel) (show (["firm", "firms", "rows", "levels"] : List Str).Nodup from by decide+kernel) (List.forall_mem_cons.mpr ⟨⟨_, rfl, rfl, rfl, by decide+kernel⟩, (List.forall_mem_cons.mpr ⟨⟨_, rfl, rfl, rfl, by decide+kernel⟩, (List.forall_mem_cons.mpr ⟨⟨_, rfl, rfl, rfl, by decide+kernel⟩, (fun _ h => nomatch h)⟩)⟩)⟩)) (Qax (pv 5)) (fun C s2 H2 fp xe => (Qdh (Qah Gbd0 (hr.mono (by decide)) rfl mbd0 kbd0 bbd0 Paired.nil pass0 (Qaa (pv 1) (Qaa (pv 2) (Qaa (pv 0) (Qaa (pv 3) Qad))))))) (fun C s2 H2 fp xe => (pv 0))))))))
  (Qag (Qat (pv 2))))))), ?_⟩
 have hline : 10 ^ 6 ≤ sizeLine := by decide
 refine fun d hd0 => ?_
 have e1 := Qac (o := .dK []) hd0
 have hd1 : upd H d (.dK []) d = some (.dK []) := Qab
 generalize upd H d (.dK []) = H1 at e1 hd1 ⊢
 refine ⟨_, rfl, fl, rfl, ⟨_, SqL.of (e1 _ _ hfl)⟩, ?_⟩
 refine Qbj (xs := (fs).map V.str) (fun j ys H' => ys = (((fs).take j).filter (fun f => decide (lead fs R [] f))).map V.str ∧ Same H1 H') ⟨rfl, fun _ _ h => h⟩ (by rw [List.length_map]; omega) ?_ ?_ ?_
 ·rintro j ys H5 hj ⟨rfl, e5⟩
  refine ⟨SqL.of (e5 _ _ (e1 _ _ hfl)), ?_⟩
  rw [List.length_map]
  have h1 := List.length_filter_le (fun f => decide (lead fs R [] f)) ((fs).take j)
  rw [List.length_take] at h1
  omega
 ·rintro j x ys H5 hx ⟨rfl, e5⟩
  obtain ⟨f, hf, rfl⟩ := Qbu hx
  have e05 := e1.trans e5
  refine ⟨_, rfl, _, rfl, _, rfl, _, rfl, fl, l, d, fs, R, [], f, gs, es, rfl, e05 _ _ hfl, e05 _ _ hl, hR.same e05, hlen, e5 _ _ hd1, fun H6 e6 => ⟨_, rfl, ?_⟩⟩
  refine dec2 (fun h2 => ?_) (fun h2 => ?_)
  ·refine ⟨_, rfl, ?_, e5.trans e6⟩
   rw [Qaw hf, List.filter_append, List.filter_cons_of_pos (by simpa using h2), List.map_append]
   rfl
  ·refine ⟨?_, e5.trans e6⟩
   rw [Qaw hf, List.filter_append, List.filter_cons_of_neg (by simpa using h2)]
   simp
 rintro ys H5 ⟨rfl, e5⟩ fo hfo
 rw [List.length_map, List.take_length]
 have ef : fs.filter (fun f => decide (lead fs R [] f)) = fnd fs R [] := by
  unfold fnd
  refine List.filter_congr fun f _ => ?_
  simp
 rw [ef]
 have f2 := Qac (o := .lst ((fnd fs R []).map V.str)) hfo
 have hfo2 : upd H5 fo (.lst ((fnd fs R []).map V.str)) fo = some (.lst ((fnd fs R []).map V.str)) := Qab
 generalize upd H5 fo (.lst ((fnd fs R []).map V.str)) = H2 at f2 hfo2 ⊢
 have e12 := e5.trans f2
 have hd2 : H2 d = some (.dK (kd [])) := e12 _ _ hd1
 have L0 : LI fs R [] 0 := ⟨List.nodup_nil, (fun p hp => nomatch hp), (fun f k h => nomatch h), fun h => absurd h (by decide)⟩
 have E0 : Same H H2 := e1.trans e12
 clear hd1 e12 e5 f2 ef
 refine ⟨fun m σ H' => ∃ (o5 : Option V) (D : List (Str × Int)) (n : Nat) (fo : Addr), σ = [some (.ref fl), some (.ref l), some (.ref d), some (.int (n : Int)), some (.ref fo), o5] ∧ Same H H' ∧ H' d = some (.dK (kd D)) ∧ H' fo = some (.lst ((fnd fs R D).map V.str)) ∧ fo ≠ d ∧ LI fs R D n ∧ m = fs.length - D.length, ⟨_, _, [], 0, fo, rfl, E0, hd2, hfo2, Ql1 hfo2 hd2 (by intro z; cases z), L0, rfl⟩, ?_⟩
 rintro m σ H3 ⟨o5, D, n, fo, rfl, E3, hd3, hfo3, nfd, LI3, rfl⟩
 have lD : D.length ≤ fs.length := by
  have := Qbv (D.map (·.1)) fs LI3.nd fun x hx => by
   obtain ⟨p, hp, rfl⟩ := List.mem_map.mp hx
   exact (LI3.sub p hp).1
  rw [List.length_map] at this
  exact this
 refine ⟨_, rfl, (by show 0 ≤ sizeLine; decide), fun em hem => ?_⟩
 have e4 := Qac (o := .lst []) hem
 have hem4 : upd H3 em (.lst []) em = some (.lst []) := Qab
 generalize upd H3 em (.lst []) = H4 at e4 hem4 ⊢
 have E4 := E3.trans e4
 have hd4 := e4 _ _ hd3
 have hfo4 := e4 _ _ hfo3
 refine ⟨fo, em, _, _, rfl, rfl, SqL.of hfo4, SqL.of hem4, ?_⟩
 cases hfd : fnd fs R D with
 | nil =>
   refine .inr ⟨⟨rfl, fun j x y h => nomatch h⟩, _, rfl, iteF ?_⟩
   exact ⟨_, rfl, q d D n _ E4 hd0 hd4 LI3 hfd⟩
 | cons g0 gr =>
   refine .inl ⟨by simp, _, rfl, iteT ?_⟩
   refine ⟨_, fun _ _ h => h, ?_⟩
   have lfd : (fnd fs R D).length ≤ fs.length := List.length_filter_le _ _
   have lnz : 1 ≤ (fnd fs R D).length := by rw [hfd]; simp
   refine ⟨_, rfl, .inr (.inr (.inl ⟨rfl, .inl ⟨_, hd4⟩⟩)), ?_⟩
   refine ⟨_, rfl, fo, rfl, ⟨_, SqL.of hfo4⟩, ?_⟩
   refine Qbz (xs := (fnd fs R D).map V.str) (fun j ys H' => ∃ T : List (Addr × Str), ys = T.map (fun z => V.ref z.1) ∧ T.map (·.2) = (fnd fs R D).take j ∧ (∀ z ∈ T, H' z.1 = some (.tup [.str z.2, .int (n : Int)])) ∧ Same H4 H') ⟨[], rfl, rfl, (fun z hz => nomatch hz), fun _ _ h => h⟩ (by rw [List.length_map]; omega) ?_ ?_ ?_
   ·rintro j ys H5 hj ⟨T, rfl, hT, _, e5⟩
    refine ⟨SqL.of (e5 _ _ hfo4), ?_⟩
    have := congrArg List.length hT
    rw [List.length_map, List.length_take] at this
    rw [List.length_map] at hj ⊢
    omega
   ·rintro j x ys H5 hx ⟨T, rfl, hT, hTt, e5⟩
    obtain ⟨f, hf, rfl⟩ := Qbu hx
    refine ⟨_, rfl, _, rfl, (by show 2 ≤ sizeLine; decide), fun y hy => ?_⟩
    have s1 := Qac (o := .tup [.str f, .int (n : Int)]) hy
    refine ⟨T ++ [(y, f)], by rw [List.map_append]; rfl, by rw [List.map_append, hT, Qaw hf]; rfl, fun z hz => ?_, e5.trans s1⟩
    rcases List.mem_append.mp hz with c | c
    ·exact s1 _ _ (hTt z c)
    ·rw [List.mem_singleton.mp c]
     exact Qab
   rintro ys H5 ⟨T, rfl, hT, hTt, e5⟩ tl htl
   rw [List.length_map, List.take_length] at hT
   have e6 := Qac (o := .lst (T.map fun z => V.ref z.1)) htl
   have htl6 : upd H5 tl (.lst (T.map fun z => V.ref z.1)) tl = some (.lst (T.map fun z => V.ref z.1)) := Qab
   generalize upd H5 tl (.lst (T.map fun z => V.ref z.1)) = H6 at e6 htl6 ⊢
   have lT : T.length = (fnd fs R D).length := by
    rw [← hT, List.length_map]
   refine ⟨tl, T.map (fun z => (z.1, Sum.inr z.2, V.int (n : Int))), rfl, (by rw [List.map_map]; exact htl6), (by rw [List.length_map]; omega), (fun z hz => by obtain ⟨w, hw, rfl⟩ := List.mem_map.mp hz; exact e6 _ _ (hTt w hw)), fun dd hdd => ?_⟩
   have eps : (T.map (fun z => (z.1, (Sum.inr z.2 : Key), V.int (n : Int)))).map (·.2) = kd ((fnd fs R D).map fun f => (f, (n : Int))) := by
    unfold kd
    rw [← hT, List.map_map, List.map_map, List.map_map]
    rfl
   have LI4 := LI3.next hfn
   have nd4 := kd_nd LI4.nd
   rw [Qk8, List.map_append] at nd4
   have nd5 : ((kd ((fnd fs R D).map fun f => (f, (n : Int)))).map (·.1)).Nodup := (List.nodup_append.mp nd4).2.1
   rw [eps, Qdd (kvs := []) (by rw [List.nil_append]; exact nd5), List.nil_append]
   have e7 := Qac (o := .dK (kd ((fnd fs R D).map fun f => (f, (n : Int))))) hdd
   have hdd7 : upd H6 dd (.dK (kd ((fnd fs R D).map fun f => (f, (n : Int))))) dd = some (.dK (kd ((fnd fs R D).map fun f => (f, (n : Int))))) := Qab
   generalize upd H6 dd (.dK (kd ((fnd fs R D).map fun f => (f, (n : Int))))) = H7 at e7 hdd7 ⊢
   have e47 := (e5.trans e6).trans e7
   have hd7 := e47 _ _ hd4
   have ndd : d ≠ dd := Qal (e6 _ _ (e5 _ _ hd4)) hdd
   refine ⟨d, dd, _, _, rfl, rfl, ndd, hd7, hdd7, (by rw [Qk7, Qk7, List.length_map]; omega), ?_⟩
   rw [Qdd (by rw [List.map_append]; exact nd4), ← Qk8]
   have E8 : Same H (upd H7 d (.dK (kd (D ++ (fnd fs R D).map fun f => (f, (n : Int)))))) := Qbo (E4.trans e47) hd0
   have hd8 : upd H7 d (.dK (kd (D ++ (fnd fs R D).map fun f => (f, (n : Int))))) d = some (.dK (kd (D ++ (fnd fs R D).map fun f => (f, (n : Int))))) := Qab
   generalize upd H7 d (.dK (kd (D ++ (fnd fs R D).map fun f => (f, (n : Int))))) = H8 at E8 hd8 ⊢
   obtain ⟨D', hD'⟩ : ∃ D', D' = D ++ (fnd fs R D).map fun f => (f, (n : Int)) := ⟨_, rfl⟩
   have lD' : D'.length = D.length + (fnd fs R D).length := by rw [hD', List.length_append, List.length_map]
   rw [← hD'] at hd8 LI4
   have lD2 : D'.length ≤ fs.length := by
    have := Qbv (D'.map (·.1)) fs LI4.nd fun x hx => by
     obtain ⟨p, hp, rfl⟩ := List.mem_map.mp hx
     exact (LI4.sub p hp).1
    rw [List.length_map] at this
    exact this
   refine ⟨_, rfl, _, _, rfl, rfl, ?_⟩
   refine ⟨_, rfl, fl, rfl, ⟨_, SqL.of (E8 _ _ hfl)⟩, ?_⟩
   refine Qbj (xs := fs.map V.str) (fun j ys H' => ys = ((fs.take j).filter (fun f => decide (f ∉ D'.map (·.1)))).map V.str ∧ H' = H8) ⟨rfl, rfl⟩ (by rw [List.length_map]; omega) ?_ ?_ ?_
   ·rintro j ys H9 hj ⟨rfl, rfl⟩
    refine ⟨SqL.of (E8 _ _ hfl), ?_⟩
    rw [List.length_map]
    have h1 := List.length_filter_le (fun f => decide (f ∉ D'.map (·.1))) (fs.take j)
    rw [List.length_take] at h1
    omega
   ·rintro j x ys H9 hx ⟨rfl, rfl⟩
    obtain ⟨f, hf, rfl⟩ := Qbu hx
    refine ⟨_, rfl, _, rfl, d, _, rfl, DGet.k (k := Sum.inr f) hd8, _, rfl, ?_⟩
    have hv : (valV (kd D') (Sum.inr f)).isSome = decide (f ∈ D'.map (·.1)) := by
     rw [Qif, Option.isSome_map, Bool.eq_iff_iff, Ql4, decide_eq_true_eq]
    rw [hv]
    refine ndec2 (fun h2 => ?_) (fun h2 => ?_)
    ·refine ⟨_, rfl, ?_, rfl⟩
     rw [Qaw hf, List.filter_append, List.filter_cons_of_pos (by simpa using h2), List.map_append]
     rfl
    ·refine ⟨?_, rfl⟩
     rw [Qaw hf, List.filter_append, List.filter_cons_of_neg (by simpa using h2)]
     simp
   rintro ys H9 ⟨rfl, rfl⟩ wa hwa
   rw [List.length_map, List.take_length]
   obtain ⟨W, hW⟩ : ∃ W, W = fs.filter (fun f => decide (f ∉ D'.map (·.1))) := ⟨_, rfl⟩
   rw [← hW]
   have lW : W.length ≤ fs.length := by rw [hW]; exact List.length_filter_le _ _
   have eA := Qac (o := .lst (W.map V.str)) hwa
   have hwaA : upd H9 wa (.lst (W.map V.str)) wa = some (.lst (W.map V.str)) := Qab
   generalize upd H9 wa (.lst (W.map V.str)) = HA at eA hwaA ⊢
   have EA := E8.trans eA
   have hdA := eA _ _ hd8
   refine ⟨_, rfl, wa, rfl, ⟨_, SqL.of hwaA⟩, ?_⟩
   refine Qbj (xs := (W).map V.str) (fun j ys H' => ys = (((W).take j).filter (fun f => decide (lead fs R D' f))).map V.str ∧ Same HA H') ⟨rfl, fun _ _ h => h⟩ (by rw [List.length_map]; omega) ?_ ?_ ?_
   ·rintro j ys H5 hj ⟨rfl, e5⟩
    refine ⟨SqL.of (e5 _ _ hwaA), ?_⟩
    rw [List.length_map]
    have h1 := List.length_filter_le (fun f => decide (lead fs R D' f)) ((W).take j)
    rw [List.length_take] at h1
    omega
   ·rintro j x ys H5 hx ⟨rfl, e5⟩
    obtain ⟨f, hf, rfl⟩ := Qbu hx
    have e05 := EA.trans e5
    refine ⟨_, rfl, _, rfl, _, rfl, _, rfl, fl, l, d, fs, R, D', f, gs, es, rfl, e05 _ _ hfl, e05 _ _ hl, hR.same e05, hlen, e5 _ _ hdA, fun H6 e6 => ⟨_, rfl, ?_⟩⟩
    refine dec2 (fun h2 => ?_) (fun h2 => ?_)
    ·refine ⟨_, rfl, ?_, e5.trans e6⟩
     rw [Qaw hf, List.filter_append, List.filter_cons_of_pos (by simpa using h2), List.map_append]
     rfl
    ·refine ⟨?_, e5.trans e6⟩
     rw [Qaw hf, List.filter_append, List.filter_cons_of_neg (by simpa using h2)]
     simp
   rintro ys HB ⟨rfl, eB⟩ f2 hf2
   rw [List.length_map, List.take_length]
   have ef : W.filter (fun f => decide (lead fs R D' f)) = fnd fs R D' := by
    rw [hW, List.filter_filter]
    unfold fnd
    refine List.filter_congr fun f _ => ?_
    exact Bool.and_comm _ _
   rw [ef]
   have eC := Qac (o := .lst ((fnd fs R D').map V.str)) hf2
   have hf2C : upd HB f2 (.lst ((fnd fs R D').map V.str)) f2 = some (.lst ((fnd fs R D').map V.str)) := Qab
   generalize upd HB f2 (.lst ((fnd fs R D').map V.str)) = HC at eC hf2C ⊢
   have hdC := (eB.trans eC) _ _ hdA
   have hNL : ((n : Int) + 1) = ((n + 1 : Nat) : Int) := by omega
   dsimp only
   rw [hNL]
   exact ⟨_, (by omega), _, D', n + 1, f2, rfl, EA.trans (eB.trans eC), hdC, hf2C, Ql1 hf2C hdC (by intro z; cases z), LI4, rfl⟩
theorem LI.len {fs : List Str} {R : List Rw} {D : List (Str × Int)} {n : Nat} (L : LI fs R D n) : D.length ≤ fs.length := by
 have := Qbv (D.map (·.1)) fs L.nd fun x hx => by
  obtain ⟨p, hp, rfl⟩ := List.mem_map.mp hx
  exact (L.sub p hp).1
 rw [List.length_map] at this
 exact this
def ringL (fs : List Str) (D : List (Str × Int)) : List Str := fs.filter fun f => decide (f ∉ D.map (·.1))
theorem Qhq {fs : List Str} {D : List (Str × Int)} {x : Str} : x ∈ ringL fs D ↔ x ∈ fs ∧ x ∉ D.map (·.1) := by
 unfold ringL
 rw [List.mem_filter, decide_eq_true_eq]
def spRing : Sp := fun vs H Q _ => ∃ (fl l : Addr) (fs : List Str) (R : List Rw) (gs es : List Str), vs = [.ref fl, .ref l] ∧ H fl = some (.lst (fs.map V.str)) ∧ fs.Nodup ∧ fs.length ≤ 8 ∧ H l = some (.lst (rfw R)) ∧ RX H gs es R ∧ R.length ≤ 62 ∧
 ∀ (p : Addr) (zs : List Str) (D : List (Str × Int)) (n : Nat) H', Same H H' → H p = none → H' p = some (.lst (zs.map V.str)) → LI fs R D n → fnd fs R D = [] → zs.Perm (ringL fs D) → zs.Pairwise (fun a b => ltS a b = true) → Q (.ref p) H'
theorem scbo0 : FnScope ["firms", "rows", "levels"] ["firms", "rows"] (defScope sbo0) := fsc
theorem okbo0 (D : Def K mg "ring_of" sbo0 .none) (cbf0 : Cal P w K mg base CX0 true 3 "levels_of" ["firms", "rows"] [] spLev) (z_sorted : mg "sorted" = none) : Cal P w K mg base CX0 true 4 "ring_of" ["firms", "rows"] [] spRing := by
 obtain ⟨f, fd, F, hm⟩ := D
 obtain ⟨fbf0, fdbf0, dbf0, Gbf0, mbf0, kbf0, bbf0, vbf0, bbf01⟩ := cbf0
 refine ⟨f, fd, _, F.ok scbo0 (fun vs H Q E h => ?_) (fun cdv A outer s H vs Q E hr h => ?_), hm, F.kp, (F.b2), .nil, F.b2⟩
 ·obtain ⟨fl, l, fs, R, gs, es, rfl, hfl, hfn, hf8, hl, hR, hlen, q⟩ := h
  rfl
 obtain ⟨fl, l, fs, R, gs, es, rfl, hfl, hfn, hf8, hl, hR, hlen, q⟩ := h
 have nd := scbo0.nd
 refine ⟨_, (Qae (Qak (i := 2) nd rfl (Or.inr rfl) (Qah Gbf0 (hr.mono (by decide)) rfl mbf0 kbf0 bbf0 Paired.nil pass0 (Qaa (pv 0) (Qaa (pv 1) Qad))))
  (Qag (Qat (Qao Qfb rfl z_sorted Qja (Qaa (Qck [2] rfl (LcOk.free ["levels"] rfl rfl (List.forall_mem_cons.mpr ⟨rfl, (fun _ h => nomatch h)⟩) (by decide+kernel) rfl (by decide+kernel) rfl (by decide+kernel) (show (["firm", "levels"] : List Str).Nodup from by decide+kernel) (List.forall_mem_cons.mpr ⟨⟨_, rfl, rfl, rfl, by decide+kernel⟩, (fun _ h => nomatch h)⟩)) (Qax (pv 0)) (fun C s2 H2 fp xe => (Qkw (Qe2 (Qmf hr) (pv 0) (pv 1)))) (fun C s2 H2 fp xe => (pv 0))) Qad))))), ?_⟩
 have hline : 10 ^ 6 ≤ sizeLine := by decide
 refine ⟨_, rfl, _, rfl, fl, l, fs, R, gs, es, rfl, hfl, hfn, hf8, hl, hR, hlen, fun d D n H1 e1 hd0 hd LI1 hf1 => ?_⟩
 refine ⟨_, rfl, fl, rfl, ⟨_, SqL.of (e1 _ _ hfl)⟩, ?_⟩
 refine Qbj (xs := fs.map V.str) (fun j ys H' => ys = ((fs.take j).filter (fun f => decide (f ∉ D.map (·.1)))).map V.str ∧ H' = H1) ⟨rfl, rfl⟩ (by rw [List.length_map]; omega) ?_ ?_ ?_
 ·rintro j ys H9 hj ⟨rfl, rfl⟩
  refine ⟨SqL.of (e1 _ _ hfl), ?_⟩
  rw [List.length_map]
  have h1 := List.length_filter_le (fun f => decide (f ∉ D.map (·.1))) (fs.take j)
  rw [List.length_take] at h1
  omega
 ·rintro j x ys H9 hx ⟨rfl, rfl⟩
  obtain ⟨f, hf, rfl⟩ := Qbu hx
  refine ⟨_, rfl, _, rfl, d, _, rfl, DGet.k (k := Sum.inr f) hd, _, rfl, ?_⟩
  have hv : (valV (kd D) (Sum.inr f)).isSome = decide (f ∈ D.map (·.1)) := by
   rw [Qif, Option.isSome_map, Bool.eq_iff_iff, Ql4, decide_eq_true_eq]
  rw [hv]
  refine ndec2 (fun h2 => ?_) (fun h2 => ?_)
  ·refine ⟨_, rfl, ?_, rfl⟩
   rw [Qaw hf, List.filter_append, List.filter_cons_of_pos (by simpa using h2), List.map_append]
   rfl
  ·refine ⟨?_, rfl⟩
   rw [Qaw hf, List.filter_append, List.filter_cons_of_neg (by simpa using h2)]
   simp
 rintro ys H9 ⟨rfl, rfl⟩ k1 hk1
 rw [List.length_map, List.take_length]
 have lr : (ringL fs D).length ≤ fs.length := List.length_filter_le _ _
 have s1 := Qac (o := .lst ((ringL fs D).map V.str)) hk1
 refine ⟨k1, ringL fs D, rfl, SqL.of Qab, by omega, hfn.filter _, fun p zs hp pm pw => ?_⟩
 exact q p zs D n _ ((e1.trans s1).trans (Qac hp)) ((e1.trans s1).free hp) Qab LI1 hf1 pm pw
theorem Qh1 {X : Cx} {scope : Scope} {cl : List (Str × Addr)} {C : Addr} {s2 : Shared} {H2 : Hp} {fp : List Addr} {N' : List Str} {xe : Q0} : OpR (X.inC scope cl C s2 H2 fp N' xe) (binaryOp .Add) rCat := Qb1 (X := X.inC scope cl C s2 H2 fp N' xe)
theorem cutD {xs : List V} {t : Nat} (h : t ≤ xs.length) : cutV xs (some (t : Int)) none = xs.drop t := by
 rw [Qeq, Nat.min_eq_left h]
theorem cutT {xs : List V} {t : Nat} (h : t ≤ xs.length) : cutV xs none (some (t : Int)) = xs.take t := by
 rw [Qdb, Nat.min_eq_left h]
abbrev Lz := Addr × List Int
def rfz (Z : List Lz) : List V := Z.map fun z => .ref z.1
theorem Qbk (Z : List Lz) : (rfz Z).length = Z.length := List.length_map ..
theorem Qc0 (A B : List Lz) : rfz (A ++ B) = rfz A ++ rfz B := List.map_append ..
theorem Qez {Z : List Lz} {i : Nat} {x : V} (h : (rfz Z)[i]? = some x) : ∃ z, Z[i]? = some z ∧ x = .ref z.1 := by
 unfold rfz at h
 rw [List.getElem?_map] at h
 cases e : Z[i]? with
 | none => rw [e] at h; cases h
 | some z => rw [e] at h; exact ⟨z, rfl, (Option.some.inj h).symm⟩
theorem at_rfz {Z : List Lz} {i : Nat} {z : Lz} (h : Z[i]? = some z) : (rfz Z)[i]? = some (.ref z.1) := by
 unfold rfz
 rw [List.getElem?_map, h]
 rfl
def LL (H : Hp) (Z : List Lz) : Prop := ∀ z ∈ Z, H z.1 = some (.lst (z.2.map V.int))
theorem LL.same {H H' : Hp} {Z : List Lz} (h : LL H Z) (e : Same H H') : LL H' Z := fun z hz => e _ _ (h z hz)
theorem LL.app {H : Hp} {A B : List Lz} (h1 : LL H A) (h2 : LL H B) : LL H (A ++ B) := fun z hz => (List.mem_append.mp hz).elim (h1 z) (h2 z)
abbrev rws (Z : List Lz) : List (List Int) := Z.map (·.2)
theorem Qgj {Z : List Lz} {i : Nat} {z : Lz} (h : Z[i]? = some z) : (rws Z).getD i [] = z.2 := by
 rw [List.getD_eq_getElem?_getD, List.getElem?_map, h]
 rfl
theorem Qcz (A B : List Lz) : rws (A ++ B) = rws A ++ rws B := List.map_append ..
theorem Qcx {α : Type} {l : List α} {i : Nat} {x : α} (h : l[i]? = some x) : l.take (i + 1) = l.take i ++ [x] := by
 rw [List.take_succ, h]
 rfl
theorem atInt {r : List Int} {j : Nat} (h : j < r.length) : atI (r.map V.int) (j : Int) = some (.int (N45.gt r j)) := Qbr (by rw [List.getElem?_map, N45.Qcm h]; rfl)
theorem Qas (H : Hp) : Same H H := fun _ _ h => h
theorem Qd4 {σ0 : St} (h : σ0.length = 2) : ∃ u v, σ0 = [u, v] := by
 rcases σ0 with _ | ⟨u, _ | ⟨v, _ | ⟨w, r⟩⟩⟩ <;> simp at h
 exact ⟨u, v, rfl⟩
theorem gL_bt {r : List Int} {n : Nat} (h : N45.gL 0 r ≠ 0) (hb : ∀ x ∈ r, N45.Bt n x) : (N45.gL 0 r).natAbs < 2 ^ n := by
 obtain ⟨x, hx, h0⟩ : ∃ x ∈ r, x ≠ 0 := by
  refine Classical.byContradiction fun c => h ?_
  have := N45.Qiv r 0 0 (Int.dvd_refl 0) fun x hx => by
   have : x = 0 := Classical.byContradiction fun d => c ⟨x, hx, d⟩
   rw [this]
   exact Int.dvd_refl 0
  exact Int.zero_dvd.mp this
 have d := Int.natAbs_dvd_natAbs.mpr ((N45.Qd9 r 0).2 x hx)
 exact Nat.lt_of_le_of_lt (Nat.le_of_dvd (by omega) d) (hb x hx)
def spOnly : Sp := fun vs H Q _ => ∃ (m k : Nat) (x : Int), vs = [.int m, .int k, .int x] ∧ m ≤ 100 ∧ ∀ p, H p = none → Q (.ref p) (upd H p (.lst ((N45.uni m k x).map V.int)))
def spWid : Sp := fun vs H Q _ => ∃ (a : Addr) (Z : List Lz), vs = [.ref a] ∧ H a = some (.lst (rfz Z)) ∧ LL H Z ∧ Z.length ≤ 6 ∧ (∀ z ∈ Z, z.2.length ≤ 100) ∧ ∀ (p : Addr) (Y : List Lz) H', Same H H' → H' p = some (.lst (rfz Y)) → LL H' Y → rws Y = N45.wid (rws Z) → Q (.ref p) H'
def spLean : Sp := fun vs H Q _ => ∃ (a : Addr) (r : List Int), vs = [.ref a] ∧ H a = some (.lst (r.map V.int)) ∧ r.length ≤ 100 ∧ N45.gL 0 r ≠ 0 ∧ (∀ x ∈ r, N45.Bt 4000 x) ∧ ∀ p, H p = none → Q (.ref p) (upd H p (.lst ((N45.leanF r).map V.int)))
def spClr : Sp := fun vs H Q _ => ∃ (a b : Addr) (n y : List Int) (p e : Nat), vs = [.ref a, .ref b, .int p] ∧ H a = some (.lst (n.map V.int)) ∧ H b = some (.lst (y.map V.int)) ∧ n.length = y.length ∧ n.length ≤ 100 ∧ p < n.length ∧ N45.gL 0 (N45.crude n y p) ≠ 0 ∧ (∀ x ∈ n, N45.Bt e x) ∧ (∀ x ∈ y, N45.Bt e x) ∧ e ≤ 1990 ∧
 ∀ q H', Same H H' → H' q = some (.lst ((N45.clr n y p).map V.int)) → Q (.ref q) H'
def spFw : Sp := fun vs H Q _ => ∃ (a : Addr) (Z : List Lz) (p : Nat), vs = [.ref a, .int p] ∧ H a = some (.lst (rfz Z)) ∧ LL H Z ∧ (∀ z ∈ Z, p < z.2.length) ∧ (N45.fw (rws Z) p = none → ∀ H', Same H H' → Q .non H') ∧ ∀ i, N45.fw (rws Z) p = some i → ∀ H', Same H H' → Q (.int (i : Int)) H'
def Sqr (Z : List Lz) (E : Nat) : Prop := N45.Squ (rws Z) E ∧ Z.length ≤ 6 ∧ N45.ex E Z.length ≤ 1990
def spTurn : Sp := fun vs H Q _ => ∃ (a : Addr) (Z : List Lz) (E : Nat), vs = [.ref a] ∧ H a = some (.lst (rfz Z)) ∧ LL H Z ∧ Sqr Z E ∧ ∀ (t la lb : Addr) (A B : List Lz) H', Same H H' → H' t = some (.tup [.ref la, .ref lb]) → H' la = some (.lst (rfz A)) → H' lb = some (.lst (rfz B)) → LL H' A → LL H' B → (rws A, rws B) = N45.trn (rws Z) Z.length → Q (.ref t) H'
def sgp (r : List Int) (k : Nat) : Int := if 0 < N45.gt r k then 1 else -1
def prF (r : List Int) (k m : Nat) : Int × List Int := (sgp r k * N45.gt r k, (r.drop m).map fun x => sgp r k * x)
def spPair : Sp := fun vs H Q _ => ∃ (a : Addr) (r : List Int) (k m : Nat), vs = [.ref a, .int k, .int m] ∧ H a = some (.lst (r.map V.int)) ∧ k < r.length ∧ m ≤ r.length ∧ r.length ≤ 100 ∧ (∀ x ∈ r, N45.Bt 1990 x) ∧ ∀ t q H', Same H H' → H q = none → H t = none → H' t = some (.tup [.int (prF r k m).1, .ref q]) → H' q = some (.lst ((prF r k m).2.map V.int)) → Q (.ref t) H'
abbrev Pr := Addr × Int × Addr × List Int
def rfp (Y : List Pr) : List V := Y.map fun y => .ref y.1
theorem Qc1 (Y : List Pr) : (rfp Y).length = Y.length := List.length_map ..
theorem Qlw (A B : List Pr) : rfp (A ++ B) = rfp A ++ rfp B := List.map_append ..
theorem Qku {Z : List Pr} {i : Nat} {x : V} (h : (rfp Z)[i]? = some x) : ∃ z, Z[i]? = some z ∧ x = .ref z.1 := by
 unfold rfp at h
 rw [List.getElem?_map] at h
 cases e : Z[i]? with
 | none => rw [e] at h; cases h
 | some z => rw [e] at h; exact ⟨z, rfl, (Option.some.inj h).symm⟩
theorem at_rfp {Z : List Pr} {i : Nat} {z : Pr} (h : Z[i]? = some z) : (rfp Z)[i]? = some (.ref z.1) := by
 unfold rfp
 rw [List.getElem?_map, h]
 rfl
def PP (H : Hp) (Y : List Pr) : Prop := ∀ y ∈ Y, H y.1 = some (.tup [.int y.2.1, .ref y.2.2.1]) ∧ H y.2.2.1 = some (.lst (y.2.2.2.map V.int))
theorem PP.same {H H' : Hp} {Y : List Pr} (h : PP H Y) (e : Same H H') : PP H' Y := fun z hz => ⟨e _ _ (h z hz).1, e _ _ (h z hz).2⟩
abbrev prs (Y : List Pr) : List (Int × List Int) := Y.map fun y => (y.2.1, y.2.2.2)
theorem Qlx (A B : List Pr) : prs (A ++ B) = prs A ++ prs B := List.map_append ..
def pap (S : List (List Int)) : List (Int × List Int) := (List.range S.length).map fun k => prF ((N45.trn S S.length).1.getD k []) k S.length
def spPapN : Sp := fun vs H Q _ => ∃ (a : Addr) (Z : List Lz) (E : Nat), vs = [.ref a] ∧ H a = some (.lst (rfz Z)) ∧ LL H Z ∧ Sqr Z E ∧ (N45.trn (rws Z) Z.length).2 = [] ∧
 ∀ (t : Addr) (Y : List Pr) H', Same H H' → H' t = some (.lst (rfp Y)) → PP H' Y → prs Y = pap (rws Z) → H t = none → (∀ y ∈ Y, H y.2.2.1 = none ∧ H y.1 = none) → Q (.ref t) H'
def spG : Sp := fun vs H Q _ => ∃ a b : Int, vs = [.int a, .int b] ∧ Q (.int (N11.gF a b)) H
theorem scav0 : FnScope ["one", "other", "rest"] ["one", "other"] (defScope sav0) := fsc
theorem okav0 (D : Def K mg "divisor" sav0 .none) (z_abs : mg "abs" = none) : Cal P w K mg base CX0 cm 1 "divisor" ["one", "other"] [] spG := by
 obtain ⟨f, fd, F, hm⟩ := D
 refine ⟨f, fd, _, F.ok scav0 (fun vs H Q E h => ?_) (fun cdv A outer s H vs Q E hr h => ?_), hm, F.kp, (F.b2), .nil, F.b2⟩
 ·obtain ⟨a, b, rfl, q⟩ := h
  rfl
 obtain ⟨a, b, rfl, q⟩ := h
 have nd := scav0.nd
 refine ⟨_, (Qae (Qak (i := 0) nd rfl (Or.inl rfl) (Qao Qfe rfl z_abs Qli (Qaa (pv 0) Qad)))
  (Qae (Qak (i := 1) nd rfl (Or.inl rfl) (Qao Qfe rfl z_abs Qli (Qaa (pv 1) Qad)))
  (Qae (Qgo PassesOwn.never (Qap Qde (pv 1) Qaf (nomark _)) (Qae (Qak (i := 2) nd rfl (Or.inl rfl) (Qan Qa8 (pv 0) (pv 1)))
  (Qae (Qak (i := 0) nd rfl (Or.inl rfl) (pv 1))
  (Qag (Qak (i := 1) nd rfl (Or.inl rfl) (pv 2))))))
  (Qag (Qat (pv 0)))))), ?_⟩
 refine ⟨_, rfl, a, rfl, ?_⟩
 refine ⟨_, rfl, b, rfl, ?_⟩
 refine Qjj (fun σ H' => ∃ (x y : Int) (r : Option V), σ = [some (.int x), some (.int y), r] ∧ H' = H ∧ 0 ≤ x ∧ 0 ≤ y ∧ N11.gF x y = N11.gF a b) (fun σ _ => match σ with | [_, some (.int y), _] => y.toNat | _ => 0)
  ⟨_, _, none, rfl, rfl, by omega, by omega, N11.Qmh a b⟩ ?_ ?_
 ·rintro σ H1 ⟨x, y, r, rfl, rfl, hx, hy, hg⟩
  refine ⟨_, rfl, rfl, _, rfl, ?_⟩
  refine ndec2 (fun h => ?_) (fun h => ?_)
  ·have hy0 : 0 < y := by (have : y ≠ 0 := fun z => h (congrArg V.int z)); omega
   refine ⟨_, rfl, _, rfl, _, _, rfl, rfl, hy0, _, rfl, _, rfl, ⟨y, x % y, _, rfl, rfl, by omega, Int.emod_nonneg x (by omega), ?_⟩, ?_⟩
   ·rw [N11.Qmg hx hy0]
    exact hg
   ·have := Int.emod_lt_of_pos x hy0
    have := Int.emod_nonneg x (show y ≠ 0 by omega)
    show (x % y).toNat < y.toNat
    omega
  ·have hy0 : y = 0 := by exact V.int.inj h
   subst hy0
   rw [← N11.g_end hg hx] at q
   exact ⟨_, rfl, q⟩
 ·intro σ H1 Q1 Q2 hq z
  obtain ⟨v, e, sc, k, e2, z⟩ := z
  exact ⟨v, e, sc, k, e2, hq _ _ z⟩
theorem scbh0 : FnScope ["many", "place", "number"] ["many", "place", "number"] (defScope sbh0) := fsc
theorem okbh0 (D : Def K mg "only_at" sbh0 .none) (z_range : mg "range" = none) : Cal P w K mg base CX0 true 1 "only_at" ["many", "place", "number"] [] spOnly := by
 obtain ⟨f, fd, F, hm⟩ := D
 refine ⟨f, fd, _, F.ok scbh0 (fun vs H Q E h => ?_) (fun cdv A outer s H vs Q E hr h => ?_), hm, F.kp, (F.b3), .nil, F.b3⟩
 ·obtain ⟨m, k, x, rfl, hm, q⟩ := h
  rfl
 obtain ⟨m, k, x, rfl, hm, q⟩ := h
 have nd := scbh0.nd
 refine ⟨_, (Qag (Qat (Qc2 [2, 1] rfl (LcOk.free ["place", "number"] rfl rfl (List.forall_mem_cons.mpr ⟨rfl, (List.forall_mem_cons.mpr ⟨rfl, (fun _ h => nomatch h)⟩)⟩) (by decide+kernel) rfl (by decide+kernel) rfl (by decide+kernel) (show (["at", "number", "place"] : List Str).Nodup from by decide+kernel) (List.forall_mem_cons.mpr ⟨⟨_, rfl, rfl, rfl, by decide+kernel⟩, (List.forall_mem_cons.mpr ⟨⟨_, rfl, rfl, rfl, by decide+kernel⟩, (fun _ h => nomatch h)⟩)⟩)) (Qaz rfl z_range (Qaa (pv 0) Qad)) (fun C s2 H2 fp xe => (Qgr (Qap Qb7 (pv 0) (pv 2) (nomark _)) (pv 1) Qaf))))), ?_⟩
 have hline : 600 ≤ sizeLine := by decide
 refine ⟨_, rfl, _, rfl, by omega, by omega, ?_⟩
 refine Qcs (lo := 0) (fun i ys H' => ys = ((List.range i).map fun j => if j = k then x else 0).map V.int ∧ H' = H) ⟨rfl, rfl⟩ (by omega) ?_ ?_ ?_
 ·rintro i ys H' hi ⟨rfl, rfl⟩
  rw [List.length_map, List.length_map, List.length_range]
 ·rintro i ys H' hi ⟨rfl, rfl⟩
  refine ⟨_, rfl, _, rfl, rfl, _, rfl, ?_⟩
  refine dec2 (fun h => ?_) (fun h => ?_)
  ·have e : i = k := by have := V.int.inj h; omega
   refine ⟨_, rfl, ?_, rfl⟩
   rw [List.range_succ, List.map_append, List.map_append, e]
   simp
  ·have e : i ≠ k := fun w => h (congrArg V.int (by omega))
   refine ⟨?_, rfl⟩
   rw [List.range_succ, List.map_append, List.map_append]
   simp [e]
 rintro ys H' ⟨rfl, rfl⟩ p hp
 exact q p hp
theorem scbw0 : FnScope ["square", "many"] ["square"] (defScope sbw0) := fsc
theorem okbw0 (D : Def K mg "widened" sbw0 .none) (cbh0 : Cal P w K mg base CX0 true 1 "only_at" ["many", "place", "number"] [] spOnly) (z_len : mg "len" = none) (z_enumerate : mg "enumerate" = none) (z_list : mg "list" = none) : Cal P w K mg base CX0 true 2 "widened" ["square"] [] spWid := by
 obtain ⟨f, fd, F, hm⟩ := D
 obtain ⟨fbh0, fdbh0, dbh0, Gbh0, mbh0, kbh0, bbh0, vbh0, bbh01⟩ := cbh0
 refine ⟨f, fd, _, F.ok scbw0 (fun vs H Q E h => ?_) (fun cdv A outer s H vs Q E hr h => ?_), hm, F.kp, (F.b1), .nil, F.b1⟩
 ·obtain ⟨a, Z, rfl, ha, hZ, h6, hw, q⟩ := h
  rfl
 obtain ⟨a, Z, rfl, ha, hZ, h6, hw, q⟩ := h
 have nd := scbw0.nd
 refine ⟨_, (Qae (Qak (i := 1) nd rfl (Or.inr rfl) (Qao Qaj rfl z_len Qa1 (Qaa (pv 0) Qad)))
  (Qag (Qat (Qd7 (xs := ["place", "numbers"]) [1] rfl (LcOkT.free (xs := ["place", "numbers"]) ["many"] rfl rfl (List.forall_mem_cons.mpr ⟨rfl, (fun _ h => nomatch h)⟩) (by decide+kernel) rfl (by decide+kernel) (by decide+kernel) (by decide+kernel) (show (["place", "numbers", "many"] : List Str).Nodup from by decide+kernel) (List.forall_mem_cons.mpr ⟨⟨_, rfl, rfl, rfl, by decide+kernel⟩, (fun _ h => nomatch h)⟩)) (Qds rfl z_enumerate (Qaa (pv 0) Qad)) (Qcq rfl (LcOkT.free (xs := ["place", "numbers"]) ["many"] rfl rfl (List.forall_mem_cons.mpr ⟨rfl, (fun _ h => nomatch h)⟩) (by decide+kernel) rfl (by decide+kernel) (by decide+kernel) (by decide+kernel) (show (["place", "numbers", "many"] : List Str).Nodup from by decide+kernel) (List.forall_mem_cons.mpr ⟨⟨_, rfl, rfl, rfl, by decide+kernel⟩, (fun _ h => nomatch h)⟩))) (fun C s2 H2 fp xe => (Qan Qh1 (Qbg Qes rfl z_list Qb8 (Qaa (pv 1) Qad)) (Qah Gbh0 (hr.mono (by decide)) rfl mbh0 kbh0 bbh0 Paired.nil pass0 (Qaa (pv 2) (Qaa (pv 0) (Qaa Qaf Qad)))))))))), ?_⟩
 have hline : 10 ^ 6 ≤ sizeLine := by decide
 refine ⟨_, rfl, a, _, rfl, .inl (SqL.of ha), ?_⟩
 rw [Qbk]
 refine ⟨_, rfl, a, rfl, ⟨_, SqL.of ha⟩, ?_⟩
 refine Qia (xs := rfz Z) (fun i ys H' => ∃ Y : List Lz, ys = rfz Y ∧ Same H H' ∧ LL H' Y ∧ rws Y = (List.range i).map fun k => (rws Z).getD k [] ++ N45.uni (rws Z).length k 1) ⟨[], rfl, Qas _, (fun z hz => nomatch hz), rfl⟩ (by rw [Qbk]; omega) ?_ ?_ ?_
 ·rintro i ys H' hi ⟨Y, rfl, e, _, hY⟩
  refine ⟨SqL.of (e _ _ ha), ?_⟩
  have := congrArg List.length hY
  rw [List.length_map, List.length_map, List.length_range] at this
  rw [Qbk]
  exact this
 ·rintro i x ys H' t hx ⟨Y, rfl, e, hY, hYv⟩ ht σ0 h0
  obtain ⟨z, hz, rfl⟩ := Qez hx
  obtain ⟨u, v, rfl⟩ := Qd4 h0
  have et := Qac (o := .tup [.int (i : Int), .ref z.1]) ht
  have e1 := e.trans et
  refine ⟨t, _, rfl, SqT.of Qab, rfl, _, _, rfl, _, _, rfl, rfl, [_, _], rfl, rfl, ?_⟩
  have hz1 := e1 _ _ (hZ z (List.mem_of_getElem? hz))
  refine ⟨_, rfl, z.1, _, rfl, .inl (SqL.of hz1), fun p hp => ?_⟩
  have f1 := Qac (o := .lst (z.2.map V.int)) hp
  refine ⟨_, rfl, _, rfl, Z.length, i, 1, rfl, by omega, fun p2 hp2 => ?_⟩
  have f2 := Qac (o := .lst ((N45.uni Z.length i 1).map V.int)) hp2
  refine ⟨p, p2, _, _, rfl, rfl, f2 _ _ Qab, Qab, ?_, fun p3 hp3 => ?_⟩
  ·rw [List.length_map, List.length_map, N45.Qhd]
   have := hw z (List.mem_of_getElem? hz)
   omega
  have f3 := Qac (o := .lst (z.2.map V.int ++ (N45.uni Z.length i 1).map V.int)) hp3
  have f13 := et.trans ((f1.trans f2).trans f3)
  refine ⟨Y ++ [(p3, z.2 ++ N45.uni Z.length i 1)], by rw [Qc0]; rfl, e.trans f13, (hY.same f13).app fun y hy => ?_, ?_⟩
  ·rw [List.mem_singleton.mp hy, Qab, List.map_append]
  ·rw [List.range_succ, List.map_append, Qcz, hYv]
   refine congrArg _ ?_
   show [z.2 ++ N45.uni Z.length i 1] = [(rws Z).getD i [] ++ N45.uni (rws Z).length i 1]
   rw [Qgj hz, List.length_map]
 rintro ys H' ⟨Y, rfl, e, hY, hYv⟩ p hp
 have f := Qac (o := .lst (rfz Y)) hp
 refine q p Y _ (e.trans f) Qab (hY.same f) ?_
 rw [hYv, Qbk]
 unfold N45.wid
 rw [List.length_map]
theorem scbe0 : FnScope ["numbers", "shared", "number"] ["numbers"] (defScope sbe0) := fsc
theorem okbe0 (D : Def K mg "lean" sbe0 .none) (cav0 : Cal P w K mg base CX0 true 1 "divisor" ["one", "other"] [] spG) : Cal P w K mg base CX0 true 2 "lean" ["numbers"] [] spLean := by
 obtain ⟨f, fd, F, hm⟩ := D
 obtain ⟨fav0, fdav0, dav0, Gav0, mav0, kav0, bav0, vav0, bav01⟩ := cav0
 refine ⟨f, fd, _, F.ok scbe0 (fun vs H Q E h => ?_) (fun cdv A outer s H vs Q E hr h => ?_), hm, F.kp, (F.b1), .nil, F.b1⟩
 ·obtain ⟨a, r, rfl, ha, hl, h0, hb, q⟩ := h
  rfl
 obtain ⟨a, r, rfl, ha, hl, h0, hb, q⟩ := h
 have nd := scbe0.nd
 refine ⟨_, (Qae (Qak (i := 1) nd rfl (Or.inr rfl) Qaf)
  (Qae (Qbe PassesOwn.never rfl (Qax (pv 0)) (Qau (i := 2) nd rfl (Or.inl rfl)) (Qag (Qak (i := 1) nd rfl (Or.inr rfl) (Qah Gav0 (hr.mono (by decide)) rfl mav0 kav0 bav0 Paired.nil pass0 (Qaa (pv 1) (Qaa (pv 2) Qad))))))
  (Qag (Qat (Qc2 [1] rfl (LcOk.free ["shared"] rfl rfl (List.forall_mem_cons.mpr ⟨rfl, (fun _ h => nomatch h)⟩) (by decide+kernel) rfl (by decide+kernel) rfl (by decide+kernel) (show (["number", "shared"] : List Str).Nodup from by decide+kernel) (List.forall_mem_cons.mpr ⟨⟨_, rfl, rfl, rfl, by decide+kernel⟩, (fun _ h => nomatch h)⟩)) (Qax (pv 0)) (fun C s2 H2 fp xe => (Qan Qb5 (pv 0) (pv 1)))))))), ?_⟩
 have hline : 600 ≤ sizeLine := by decide
 have lr : (r.map V.int).length = r.length := List.length_map ..
 refine ⟨_, rfl, a, rfl, ⟨_, SqL.of ha⟩, ?_⟩
 refine Qbw (xs := r.map V.int) (fun i σ H' => ∃ (o : Option V), σ = [some (.ref a), some (.int (N45.gL 0 (r.take i))), o] ∧ H' = H) ⟨_, rfl, rfl⟩ ?_ ?_ ?_
 ·rintro i σ H' hi ⟨o, rfl, rfl⟩
  exact SqL.of ha
 ·rintro i x σ H' hx ⟨o, rfl, rfl⟩
  obtain ⟨w, hw, rfl⟩ := Qc4 hx
  refine ⟨_, rfl, _, rfl, _, _, rfl, some (.int w), ?_, rfl⟩
  rw [Qcx hw, N45.gL_app]
  rfl
 rintro σ H' ⟨o, rfl, rfl⟩
 rw [lr, List.take_length]
 refine ⟨_, rfl, a, rfl, ⟨_, SqL.of ha⟩, ?_⟩
 refine Qbz (xs := r.map V.int) (fun i ys H2 => ys = ((r.take i).map fun x => x.fdiv (N45.gL 0 r)).map V.int ∧ H2 = H') ⟨rfl, rfl⟩ (by omega) ?_ ?_ ?_
 ·rintro i ys H2 hi ⟨rfl, rfl⟩
  refine ⟨SqL.of ha, ?_⟩
  rw [List.length_map, List.length_map, List.length_take]
  omega
 ·rintro i x ys H2 hx ⟨rfl, rfl⟩
  obtain ⟨w, hw, rfl⟩ := Qc4 hx
  refine ⟨_, rfl, _, rfl, _, _, rfl, rfl, logN h0 (gL_bt h0 hb) (Nat.le_refl _), ?_, rfl⟩
  rw [Qcx hw, List.map_append, List.map_append]
  rfl
 rintro ys H2 ⟨rfl, rfl⟩ p hp
 rw [lr, List.take_length]
 exact q p hp
theorem scau0 : FnScope ["numbers", "by", "place"] ["numbers", "by", "place"] (defScope sau0) := fsc
theorem okau0 (D : Def K mg "cleared" sau0 .none) (cbe0 : Cal P w K mg base CX0 true 2 "lean" ["numbers"] [] spLean) (z_zip : mg "zip" = none) : Cal P w K mg base CX0 true 3 "cleared" ["numbers", "by", "place"] [] spClr := by
 obtain ⟨f, fd, F, hm⟩ := D
 obtain ⟨fbe0, fdbe0, dbe0, Gbe0, mbe0, kbe0, bbe0, vbe0, bbe01⟩ := cbe0
 refine ⟨f, fd, _, F.ok scau0 (fun vs H Q E h => ?_) (fun cdv A outer s H vs Q E hr h => ?_), hm, F.kp, (F.b3), .nil, F.b3⟩
 ·obtain ⟨a, b, n, y, p, e, rfl, ha, hb, hl, h100, hp, hg, hn, hy, he, q⟩ := h
  rfl
 obtain ⟨a, b, n, y, p, e, rfl, ha, hb, hl, h100, hp, hg, hn, hy, he, q⟩ := h
 have nd := scau0.nd
 refine ⟨_, (Qag (Qat (Qah Gbe0 (hr.mono (by decide)) rfl mbe0 kbe0 bbe0 Paired.nil pass0 (Qaa (Qd7 (xs := ["one", "other"]) [1, 2, 0] rfl (LcOkT.free (xs := ["one", "other"]) ["place", "numbers", "by"] rfl rfl (List.forall_mem_cons.mpr ⟨rfl, (List.forall_mem_cons.mpr ⟨rfl, (List.forall_mem_cons.mpr ⟨rfl, (fun _ h => nomatch h)⟩)⟩)⟩) (by decide+kernel) rfl (by decide+kernel) (by decide+kernel) (by decide+kernel) (show (["one", "other", "by", "place", "numbers"] : List Str).Nodup from by decide+kernel) (List.forall_mem_cons.mpr ⟨⟨_, rfl, rfl, rfl, by decide+kernel⟩, (List.forall_mem_cons.mpr ⟨⟨_, rfl, rfl, rfl, by decide+kernel⟩, (List.forall_mem_cons.mpr ⟨⟨_, rfl, rfl, rfl, by decide+kernel⟩, (fun _ h => nomatch h)⟩)⟩)⟩)) (Qhy rfl z_zip (Qaa (pv 0) (Qaa (pv 1) Qad))) (Qcq rfl (LcOkT.free (xs := ["one", "other"]) ["place", "numbers", "by"] rfl rfl (List.forall_mem_cons.mpr ⟨rfl, (List.forall_mem_cons.mpr ⟨rfl, (List.forall_mem_cons.mpr ⟨rfl, (fun _ h => nomatch h)⟩)⟩)⟩) (by decide+kernel) rfl (by decide+kernel) (by decide+kernel) (by decide+kernel) (show (["one", "other", "by", "place", "numbers"] : List Str).Nodup from by decide+kernel) (List.forall_mem_cons.mpr ⟨⟨_, rfl, rfl, rfl, by decide+kernel⟩, (List.forall_mem_cons.mpr ⟨⟨_, rfl, rfl, rfl, by decide+kernel⟩, (List.forall_mem_cons.mpr ⟨⟨_, rfl, rfl, rfl, by decide+kernel⟩, (fun _ h => nomatch h)⟩)⟩)⟩))) (fun C s2 H2 fp xe => (Qan Qgu (Qan Qav (pv 0) (Qam Qa0 (pv 2) (pv 3) (fun _ _ => rfl))) (Qan Qav (pv 1) (Qam Qa0 (pv 4) (pv 3) (fun _ _ => rfl)))))) Qad)))), ?_⟩
 have hline : 600 ≤ sizeLine := by decide
 have ln : (n.map V.int).length = n.length := List.length_map ..
 have ly : (y.map V.int).length = y.length := List.length_map ..
 have lc : (N45.crude n y p).length = n.length := N45.Qdc p hl
 have hyp : p < y.length := by omega
 refine ⟨_, rfl, _, rfl, a, b, rfl, ⟨_, SqL.of ha⟩, ⟨_, SqL.of hb⟩, ?_⟩
 refine Qk4 (xs := n.map V.int) (ys := y.map V.int) (fun i zs H' => zs = ((N45.crude n y p).take i).map V.int ∧ Same H H') ⟨rfl, Qas _⟩ (by omega) (by omega) ?_ ?_ ?_
 ·rintro i zs H' hi ⟨rfl, e⟩
  refine ⟨SqL.of (e _ _ ha), SqL.of (e _ _ hb), ?_⟩
  rw [List.length_map, List.length_take]
  omega
 ·rintro i x1 x2 zs H' t hx1 hx2 ⟨rfl, e1⟩ ht σ0 h0
  obtain ⟨w1, hw1, rfl⟩ := Qc4 hx1
  obtain ⟨w2, hw2, rfl⟩ := Qc4 hx2
  obtain ⟨u, v, rfl⟩ := Qd4 h0
  have et := Qac (o := .tup [.int w1, .int w2]) ht
  have e2 := e1.trans et
  have b1 : N45.Bt e w1 := hn _ (List.mem_of_getElem? hw1)
  have b2 : N45.Bt e w2 := hy _ (List.mem_of_getElem? hw2)
  have hin : i < n.length := (List.getElem?_eq_some_iff.mp hw1).1
  refine ⟨t, _, rfl, SqT.of Qab, rfl, _, _, rfl, _, _, rfl, rfl, [_, _], rfl, rfl, ?_⟩
  refine ⟨_, rfl, _, rfl, _, rfl, .inl ⟨b, _, _, _, rfl, rfl, SqL.of (e2 _ _ hb), atInt hyp, ?_⟩⟩
  refine ⟨_, _, rfl, rfl, mulN b1 (N45.Qcu hy p) (by omega) (by omega), ?_⟩
  refine ⟨_, rfl, _, rfl, _, rfl, .inl ⟨a, _, _, _, rfl, rfl, SqL.of (e2 _ _ ha), atInt hp, ?_⟩⟩
  refine ⟨_, _, rfl, rfl, mulN b2 (N45.Qcu hn p) (by omega) (by omega), _, _, rfl, rfl, ?_, e2⟩
  have h1 : N45.gt n i = w1 := by
   have := N45.Qcm hin
   rw [hw1] at this
   exact (Option.some.inj this).symm
  have h2 : N45.gt y i = w2 := by
   have := N45.Qcm (r := y) (j := i) (by omega)
   rw [hw2] at this
   exact (Option.some.inj this).symm
  have hc : (N45.crude n y p)[i]? = some (w1 * N45.gt y p - w2 * N45.gt n p) := by
   rw [N45.Qcm (by omega), N45.Qdm p hl, h1, h2]
  rw [Qcx hc, List.map_append]
  rfl
 rintro zs H' ⟨rfl, e1⟩ l hl1
 rw [ln, ← lc, List.take_length]
 have f := Qac (o := .lst ((N45.crude n y p).map V.int)) hl1
 refine ⟨l, _, rfl, Qab, by omega, hg, (fun x hx => (N45.Qg4 hl hn hy x hx).mono (by omega)), fun p2 hp2 => ?_⟩
 exact q p2 _ ((e1.trans f).trans (Qac hp2)) Qab
theorem scax0 : FnScope ["lists", "place", "at", "numbers"] ["lists", "place"] (defScope sax0) := fsc
theorem okax0 (D : Def K mg "first_with" sax0 .none) (z_enumerate : mg "enumerate" = none) : Cal P w K mg base CX0 true 1 "first_with" ["lists", "place"] [] spFw := by
 obtain ⟨f, fd, F, hm⟩ := D
 refine ⟨f, fd, _, F.ok scax0 (fun vs H Q E h => ?_) (fun cdv A outer s H vs Q E hr h => ?_), hm, F.kp, (F.b2), .nil, F.b2⟩
 ·obtain ⟨a, Z, p, rfl, ha, hZ, hp, q1, q2⟩ := h
  rfl
 obtain ⟨a, Z, p, rfl, ha, hZ, hp, q1, q2⟩ := h
 have nd := scax0.nd
 refine ⟨_, (Qae (Qbe PassesOwn.never rfl (Qds rfl z_enumerate (Qaa (pv 0) Qad)) (Qc6 rfl (Qa2 (Qau (i := 2) nd rfl (Or.inl rfl)) (Qa2 (Qau (i := 3) nd rfl (Or.inl rfl)) Qcb))) (Qag (Qbq (Qap Qde (Qam Qai (pv 3) (pv 1) (fun _ _ => rfl)) Qaf (nomark _)) (Qag (Qat (pv 2))) Qay)))
  (Qag (Qat Qkx))), ?_⟩
 refine ⟨_, rfl, a, rfl, ⟨_, SqL.of ha⟩, ?_⟩
 refine Qep (xs := rfz Z) (fun i σ H' => ∃ (o2 o3 : Option V), σ = [some (.ref a), some (.int p), o2, o3] ∧ Same H H' ∧ ∀ z ∈ Z.take i, N45.gt z.2 p = 0) ⟨_, _, rfl, Qas _, fun z hz => nomatch hz⟩ ?_ ?_ ?_
 ·rintro i σ H' hi ⟨o2, o3, rfl, e, _⟩
  exact SqL.of (e _ _ ha)
 ·rintro i x σ H' t hx ⟨o2, o3, rfl, e, h0⟩ ht
  obtain ⟨z, hz, rfl⟩ := Qez hx
  have e1 := e.trans (Qac (o := .tup [.int (i : Int), .ref z.1]) ht)
  have zm := List.mem_of_getElem? hz
  refine ⟨t, _, rfl, SqT.of Qab, rfl, _, _, rfl, _, _, rfl, rfl, ?_⟩
  refine ⟨_, rfl, _, rfl, .inl ⟨z.1, _, _, _, rfl, rfl, SqL.of (e1 _ _ (hZ z zm)), atInt (hp z zm), rfl, _, rfl, ?_⟩⟩
  refine ndec2 (fun h => ?_) (fun h => ?_)
  ·have hne : N45.gt z.2 p ≠ 0 := fun w => h (congrArg V.int w)
   refine ⟨_, rfl, q2 i ?_ _ e1⟩
   obtain ⟨hi, ez⟩ := List.getElem?_eq_some_iff.mp hz
   refine List.findIdx?_eq_some_iff_getElem.mpr ⟨by rw [List.length_map]; exact hi, ?_, fun j hj => ?_⟩
   ·rw [List.getElem_map, ez]
    exact decide_eq_true hne
   ·rw [List.getElem_map]
    have hjl : j < Z.length := by omega
    have := h0 Z[j] (List.mem_of_getElem? (i := j) (by rw [List.getElem?_take_of_lt hj, List.getElem?_eq_getElem hjl]))
    simp [this]
  ·refine ⟨_, _, rfl, e1, fun y hy => ?_⟩
   rw [Qcx hz] at hy
   rcases List.mem_append.mp hy with c | c
   ·exact h0 y c
   ·rw [List.mem_singleton.mp c]
    exact V.int.inj h
 rintro σ H' ⟨o2, o3, rfl, e, h0⟩
 rw [Qbk, List.take_length] at h0
 refine q1 ?_ _ e
 refine List.findIdx?_eq_none_iff.mpr fun r hr => ?_
 obtain ⟨z, hz, rfl⟩ := List.mem_map.mp hr
 simp [h0 z hz]
theorem scbv0 : FnScope ["square", "leading", "others", "place", "at", "by"] ["square"] (defScope sbv0) := fsc
theorem okbv0 (D : Def K mg "turned" sbv0 .none) (cbw0 : Cal P w K mg base CX0 true 2 "widened" ["square"] [] spWid) (cax0 : Cal P w K mg base CX0 true 1 "first_with" ["lists", "place"] [] spFw) (cau0 : Cal P w K mg base CX0 true 3 "cleared" ["numbers", "by", "place"] [] spClr) (z_range : mg "range" = none) (z_len : mg "len" = none) : Cal P w K mg base CX0 true 4 "turned" ["square"] [] spTurn := by
 obtain ⟨f, fd, F, hm⟩ := D
 obtain ⟨fbw0, fdbw0, dbw0, Gbw0, mbw0, kbw0, bbw0, vbw0, bbw01⟩ := cbw0
 obtain ⟨fax0, fdax0, dax0, Gax0, max0, kax0, bax0, vax0, bax01⟩ := cax0
 obtain ⟨fau0, fdau0, dau0, Gau0, mau0, kau0, bau0, vau0, bau01⟩ := cau0
 refine ⟨f, fd, _, F.ok scbv0 (fun vs H Q E h => ?_) (fun cdv A outer s H vs Q E hr h => ?_), hm, F.kp, (F.b1), .nil, F.b1⟩
 ·obtain ⟨a, Z, E, rfl, ha, hZ, hS, q⟩ := h
  rfl
 obtain ⟨a, Z, E, rfl, ha, hZ, hS, q⟩ := h
 have nd := scbv0.nd
 refine ⟨_, (Qae (Qak (i := 1) nd rfl (Or.inl rfl) (Qba Qad))
  (Qae (Qak (i := 2) nd rfl (Or.inl rfl) (Qah Gbw0 (hr.mono (by decide)) rfl mbw0 kbw0 bbw0 Paired.nil pass0 (Qaa (pv 0) Qad)))
  (Qae (Qbe PassesOwn.never rfl (Qaz rfl z_range (Qaa (Qao Qaj rfl z_len Qa1 (Qaa (pv 0) Qad)) Qad)) (Qau (i := 3) nd rfl (Or.inr rfl)) (Qae (Qak (i := 4) nd rfl (Or.inl rfl) (Qah Gax0 (hr.mono (by decide)) rfl max0 kax0 bax0 Paired.nil pass0 (Qaa (pv 2) (Qaa (pv 3) Qad))))
  (Qag (Qbq (Qap Qly (pv 4) Qkx (nomark _)) (Qae (Qak (i := 5) nd rfl (Or.inr rfl) (Qam Qai (pv 2) (pv 4) (fun _ _ => rfl)))
  (Qae (Qgp [5, 3] (i := 2) nd rfl (Or.inl rfl) rfl (LcOk.free ["place", "by"] rfl rfl (List.forall_mem_cons.mpr ⟨rfl, (List.forall_mem_cons.mpr ⟨rfl, (fun _ h => nomatch h)⟩)⟩) (by decide+kernel) rfl (by decide+kernel) rfl (by decide+kernel) (show (["numbers", "by", "place"] : List Str).Nodup from by decide+kernel) (List.forall_mem_cons.mpr ⟨⟨_, rfl, rfl, rfl, by decide+kernel⟩, (List.forall_mem_cons.mpr ⟨⟨_, rfl, rfl, rfl, by decide+kernel⟩, (fun _ h => nomatch h)⟩)⟩)) (Qax (Qan Qb1 (Qa3 Qbf (pv 2) Qbl (Qa9 (pv 4))) (Qa3 Qbf (pv 2) (Qa9 (Qan Qbp (pv 4) Qaf)) Qbl))) (fun C s2 H2 fp xe => (Qah Gau0 (hr.mono (by decide)) rfl mau0 kau0 bau0 Paired.nil pass0 (Qaa (pv 0) (Qaa (pv 1) (Qaa (pv 2) Qad))))))
  (Qag (Qak (i := 1) nd rfl (Or.inl rfl) (Qan Qb1 (Qc2 [5, 3] rfl (LcOk.free ["place", "by"] rfl rfl (List.forall_mem_cons.mpr ⟨rfl, (List.forall_mem_cons.mpr ⟨rfl, (fun _ h => nomatch h)⟩)⟩) (by decide+kernel) rfl (by decide+kernel) rfl (by decide+kernel) (show (["numbers", "by", "place"] : List Str).Nodup from by decide+kernel) (List.forall_mem_cons.mpr ⟨⟨_, rfl, rfl, rfl, by decide+kernel⟩, (List.forall_mem_cons.mpr ⟨⟨_, rfl, rfl, rfl, by decide+kernel⟩, (fun _ h => nomatch h)⟩)⟩)) (Qax (pv 1)) (fun C s2 H2 fp xe => (Qah Gau0 (hr.mono (by decide)) rfl mau0 kau0 bau0 Paired.nil pass0 (Qaa (pv 0) (Qaa (pv 1) (Qaa (pv 2) Qad)))))) (Qba (Qaa (pv 5) Qad))))))) Qay))))
  (Qag (Qat (Qbm (Qaa (pv 1) (Qaa (pv 2) Qad)))))))), ?_⟩
 have hline : 10 ^ 6 ≤ sizeLine := by decide
 obtain ⟨hq, h6, he⟩ := hS
 have lz : (rws Z).length = Z.length := List.length_map ..
 refine ⟨(by show 0 ≤ sizeLine; decide), fun l0 hl0 => ?_⟩
 have e1 := Qac (o := .lst []) hl0
 refine ⟨_, rfl, a, Z, rfl, e1 _ _ ha, hZ.same e1, h6, (fun z hz => ?_), fun lb0 B0 H1 e2 hlb0 hB0 hBv => ?_⟩
 ·have := hq.len z.2 (List.mem_map.mpr ⟨z, hz, rfl⟩)
  omega
 have e12 := e1.trans e2
 refine ⟨_, rfl, a, _, rfl, .inl (SqL.of (e12 _ _ ha)), _, rfl, ?_⟩
 rw [Qbk]
 refine ⟨by omega, by omega, ?_⟩
 refine Qbh (fun i σ H' => ∃ (la lb : Addr) (A B : List Lz) (o3 o4 o5 : Option V), σ = [some (.ref a), some (.ref la), some (.ref lb), o3, o4, o5] ∧ Same H H' ∧ H' la = some (.lst (rfz A)) ∧ H' lb = some (.lst (rfz B)) ∧ LL H' A ∧ LL H' B ∧ (rws A, rws B) = N45.trn (rws Z) i) ⟨l0, lb0, [], B0, _, _, _, rfl, e12, e2 _ _ Qab, hlb0, (fun z hz => nomatch hz), hB0, (by rw [hBv]; rfl)⟩ ?_ ?_
 ·rintro i σ H2 hi ⟨la, lb, A, B, o3, o4, o5, rfl, e, hla, hlb, hA, hB, hv⟩
  have hi6 : i < Z.length := by omega
  obtain ⟨tl, tr⟩ := N45.Qhj hq (p := i) (by omega)
  have hvA : rws A = (N45.trn (rws Z) i).1 := congrArg Prod.fst hv
  have hvB : rws B = (N45.trn (rws Z) i).2 := congrArg Prod.snd hv
  rw [← hvA, ← hvB] at tl tr
  rw [List.length_map, List.length_map, lz] at tl
  have exi : N45.ex E i ≤ 1990 := Nat.le_trans (N45.Qmn E (Nat.le_of_lt hi6)) he
  have rA : ∀ z ∈ A, z.2.length = 2 * Z.length ∧ ∀ x ∈ z.2, N45.Bt (N45.ex E i) x := fun z hz => by
   have := tr z.2 (List.mem_append_left _ (List.mem_map.mpr ⟨z, hz, rfl⟩))
   rw [lz] at this
   exact this
  have rB : ∀ z ∈ B, z.2.length = 2 * Z.length ∧ ∀ x ∈ z.2, N45.Bt (N45.ex E i) x := fun z hz => by
   have := tr z.2 (List.mem_append_right _ (List.mem_map.mpr ⟨z, hz, rfl⟩))
   rw [lz] at this
   exact this
  rw [show (0 : Int) + (i : Int) = (i : Int) from Int.zero_add _]
  refine ⟨_, rfl, _, rfl, lb, B, i, rfl, hlb, hB, (fun z hz => by have := (rB z hz).1; omega), (fun hn H3 e3 => ?_), fun j hj H3 e3 => ?_⟩
  ·refine ⟨_, rfl, rfl, _, rfl, ndecF rfl ?_⟩
   refine ⟨la, lb, A, B, _, _, _, rfl, e.trans e3, e3 _ _ hla, e3 _ _ hlb, hA.same e3, hB.same e3, ?_⟩
   show _ = N45.stp i (N45.trn (rws Z) i)
   unfold N45.stp
   rw [← hv]
   dsimp only
   rw [hn]
  ·obtain ⟨hjB, hjn⟩ := N45.Qfy hj
   rw [List.length_map] at hjB
   have hbj : B[j]? = some B[j] := List.getElem?_eq_getElem hjB
   have hbm : B[j] ∈ B := List.getElem_mem _
   have ne := N45.trn_ne hq (p := i) (i := j) (by omega) (by rw [← hvB]; exact hj)
   rw [← hvA, ← hvB, Qgj hbj] at ne
   refine ⟨_, rfl, rfl, _, rfl, ndecT (fun z => by cases z) ?_⟩
   refine ⟨_, rfl, _, rfl, .inl ⟨lb, _, _, _, rfl, rfl, SqL.of (e3 _ _ hlb), Qbr (at_rfz hbj), ?_⟩⟩
   generalize hbe : B[j] = b at *
   refine ⟨_, rfl, _, rfl, _, rfl, lb, _, rfl, SqL.of (e3 _ _ hlb), fun x1 hx1 => ?_⟩
   have s1 := Qac (o := .lst (cutV (rfz B) none (some (j : Int)))) hx1
   refine ⟨_, rfl, _, rfl, _, _, rfl, rfl, _, rfl, lb, _, rfl, SqL.of (s1 _ _ (e3 _ _ hlb)), fun x2 hx2 => ?_⟩
   have s2 := Qac (o := .lst (cutV (rfz B) (some ((j : Int) + 1)) none)) hx2
   have lB : (rfz B).length = B.length := Qbk B
   have c1 : cutV (rfz B) none (some (j : Int)) = rfz (B.take j) := by
    rw [cutT (by omega)]
    unfold rfz
    rw [List.map_take]
   have c2 : cutV (rfz B) (some ((j : Int) + 1)) none = rfz (B.drop (j + 1)) := by
    rw [show (j : Int) + 1 = ((j + 1 : Nat) : Int) by omega, cutD (by omega)]
    unfold rfz
    rw [List.map_drop]
   have lc : (rfz (B.take j)).length + (rfz (B.drop (j + 1))).length ≤ B.length := by
    rw [Qbk, Qbk, List.length_take, List.length_drop]
    omega
   refine ⟨x1, x2, _, _, rfl, rfl, s2 _ _ Qab, Qab, by rw [c1, c2]; omega, fun x3 hx3 => ?_⟩
   rw [c1] at s1 s2 hx3 ⊢
   rw [c2] at s2 hx3 ⊢
   rw [← Qc0]
   have s3 := Qac (o := .lst (rfz (B.take j ++ B.drop (j + 1)))) hx3
   have es := (s1.trans s2).trans s3
   have e4 := e3.trans es
   have hx3v : upd (upd (upd H3 x1 (.lst (rfz (B.take j)))) x2 (.lst (rfz (B.drop (j + 1))))) x3 (.lst (rfz (B.take j ++ B.drop (j + 1)))) x3 = some (.lst (rfz (B.take j ++ B.drop (j + 1)))) := Qab
   generalize upd (upd (upd H3 x1 (.lst (rfz (B.take j)))) x2 (.lst (rfz (B.drop (j + 1))))) x3 (.lst (rfz (B.take j ++ B.drop (j + 1)))) = H4 at s3 es e4 hx3v ⊢
   have cm : ∀ z ∈ B.take j ++ B.drop (j + 1), z ∈ B := fun z hz => (List.mem_append.mp hz).elim List.mem_of_mem_take List.mem_of_mem_drop
   have cutv : rws (B.take j ++ B.drop (j + 1)) = N45.cut (rws B) j := by
    unfold N45.cut
    rw [Qcz, ← List.map_take, ← List.map_drop]
   have hC4 : LL H4 (B.take j ++ B.drop (j + 1)) := fun z hz => e4 _ _ (hB z (cm z hz))
   have hCn : ∀ z ∈ B.take j ++ B.drop (j + 1), N45.gL 0 (N45.crude z.2 b.2 i) ≠ 0 := fun z hz => ne z.2 (List.mem_append_right _ (by rw [← cutv]; exact List.mem_map.mpr ⟨z, hz, rfl⟩))
   have hCr : ∀ z ∈ B.take j ++ B.drop (j + 1), z.2.length = 2 * Z.length ∧ ∀ x ∈ z.2, N45.Bt (N45.ex E i) x := fun z hz => rB z (cm z hz)
   have hC6 : (B.take j ++ B.drop (j + 1)).length ≤ 6 := by
    rw [← Qbk, Qc0, List.length_append]
    omega
   generalize B.take j ++ B.drop (j + 1) = C at hx3v cutv hC4 hCn hCr hC6
   have hb4 := e4 _ _ (hB b hbm)
   have rb := rB b hbm
   have lC : (rfz C).length = C.length := Qbk C
   have lA : (rfz A).length = A.length := Qbk A
   refine ⟨x3, rfl, ⟨_, SqL.of hx3v⟩, ?_⟩
   refine Qbz (xs := rfz C) (fun k ys H5 => ∃ Y : List Lz, ys = rfz Y ∧ Same H4 H5 ∧ LL H5 Y ∧ rws Y = (rws (C.take k)).map fun r => N45.clr r b.2 i) ⟨[], rfl, Qas _, (fun z hz => nomatch hz), rfl⟩ (by omega) ?_ ?_ ?_
   ·rintro k ys H5 hk ⟨Y, rfl, e5, _, hY⟩
    refine ⟨SqL.of (e5 _ _ hx3v), ?_⟩
    have := congrArg List.length hY
    rw [List.length_map, List.length_map, List.length_map, List.length_take] at this
    rw [Qbk]
    omega
   ·rintro k x ys H5 hx ⟨Y, rfl, e5, hY, hYv⟩
    obtain ⟨z, hz, rfl⟩ := Qez hx
    have zm := List.mem_of_getElem? hz
    refine ⟨_, rfl, _, rfl, _, rfl, z.1, b.1, z.2, b.2, i, N45.ex E i, rfl, e5 _ _ (hC4 z zm), e5 _ _ hb4, by have := (hCr z zm).1; omega, by have := (hCr z zm).1; omega, by have := (hCr z zm).1; omega, hCn z zm, (hCr z zm).2, rb.2, exi, fun y H6 e6 hy => ?_⟩
    refine ⟨Y ++ [(y, N45.clr z.2 b.2 i)], by rw [Qc0]; rfl, e5.trans e6, (hY.same e6).app fun w hw => ?_, ?_⟩
    ·rw [List.mem_singleton.mp hw]
     exact hy
    ·rw [Qcz, hYv, Qcx hz, Qcz, List.map_append]
     rfl
   rintro ys H5 ⟨Y, rfl, e5, hY, hYv⟩ nb hnb
   rw [lC, List.take_length] at hYv
   have f5 := Qac (o := .lst (rfz Y)) hnb
   have e6 := e5.trans f5
   have e46 := e4.trans e6
   have hY6 := hY.same f5
   have hnb6 : upd H5 nb (.lst (rfz Y)) nb = some (.lst (rfz Y)) := Qab
   generalize upd H5 nb (.lst (rfz Y)) = H6 at f5 e6 e46 hY6 hnb6 ⊢
   have hla6 := e46 _ _ hla
   have hA6 := hA.same e46
   have hb6 := e6 _ _ hb4
   refine ⟨_, rfl, la, rfl, ⟨_, SqL.of hla6⟩, ?_⟩
   refine Qbz (xs := rfz A) (fun k ys H7 => ∃ W : List Lz, ys = rfz W ∧ Same H6 H7 ∧ LL H7 W ∧ rws W = (rws (A.take k)).map fun r => N45.clr r b.2 i) ⟨[], rfl, Qas _, (fun z hz => nomatch hz), rfl⟩ (by omega) ?_ ?_ ?_
   ·rintro k ys H7 hk ⟨W, rfl, e7, _, hW⟩
    refine ⟨SqL.of (e7 _ _ hla6), ?_⟩
    have := congrArg List.length hW
    rw [List.length_map, List.length_map, List.length_map, List.length_take] at this
    rw [Qbk]
    omega
   ·rintro k x ys H7 hx ⟨W, rfl, e7, hW, hWv⟩
    obtain ⟨z, hz, rfl⟩ := Qez hx
    have zm := List.mem_of_getElem? hz
    refine ⟨_, rfl, _, rfl, _, rfl, z.1, b.1, z.2, b.2, i, N45.ex E i, rfl, e7 _ _ (hA6 z zm), e7 _ _ hb6, by have := (rA z zm).1; omega, by have := (rA z zm).1; omega, by have := (rA z zm).1; omega, ne z.2 (List.mem_append_left _ (List.mem_map.mpr ⟨z, zm, rfl⟩)), (rA z zm).2, rb.2, exi, fun y H8 e8 hy => ?_⟩
    refine ⟨W ++ [(y, N45.clr z.2 b.2 i)], by rw [Qc0]; rfl, e7.trans e8, (hW.same e8).app fun w hw => ?_, ?_⟩
    ·rw [List.mem_singleton.mp hw]
     exact hy
    ·rw [Qcz, hWv, Qcx hz, Qcz, List.map_append]
     rfl
   rintro ys H7 ⟨W, rfl, e7, hW, hWv⟩ w1 hw1
   rw [lA, List.take_length] at hWv
   have f7 := Qac (o := .lst (rfz W)) hw1
   refine ⟨_, rfl, (by show 1 ≤ sizeLine; decide), fun w2 hw2 => ?_⟩
   have f8 := Qac (o := .lst [.ref b.1]) hw2
   have lW : (rfz W).length = A.length := by
    rw [Qbk]
    have := congrArg List.length hWv
    rw [List.length_map, List.length_map, List.length_map] at this
    exact this
   refine ⟨w1, w2, _, _, rfl, rfl, f8 _ _ Qab, Qab, by rw [lW]; show A.length + 1 ≤ sizeLine; omega, fun w3 hw3 => ?_⟩
   have f9 := Qac (o := .lst (rfz W ++ [.ref b.1])) hw3
   have e79 := e7.trans ((f7.trans f8).trans f9)
   have e69 := e6.trans e79
   refine ⟨w3, nb, W ++ [b], Y, _, _, _, rfl, (e.trans e3).trans (es.trans e69), (by rw [Qab, Qc0]; rfl), e79 _ _ hnb6, (hW.same ((f7.trans f8).trans f9)).app (fun z hz => by rw [List.mem_singleton.mp hz]; exact e69 _ _ hb4), hY6.same e79, ?_⟩
   show _ = N45.stp i (N45.trn (rws Z) i)
   unfold N45.stp
   rw [← hv]
   dsimp only
   rw [hj]
   dsimp only
   rw [Qgj hbj, ← cutv, Qcz, hWv, hYv]
   rfl
 rintro σ H2 ⟨la, lb, A, B, o3, o4, o5, rfl, e, hla, hlb, hA, hB, hv⟩
 refine ⟨_, rfl, _, rfl, (by show 2 ≤ sizeLine; decide), fun t ht => ?_⟩
 have f := Qac (o := .tup [.ref la, .ref lb]) ht
 exact q t la lb A B _ (e.trans f) Qab (f _ _ hla) (f _ _ hlb) (hA.same f) (hB.same f) hv
theorem scbk0 : FnScope ["numbers", "place", "many", "sign"] ["numbers", "place", "many"] (defScope sbk0) := fsc
theorem okbk0 (D : Def K mg "pair_of" sbk0 .none) : Cal P w K mg base CX0 true 1 "pair_of" ["numbers", "place", "many"] [] spPair := by
 obtain ⟨f, fd, F, hm⟩ := D
 refine ⟨f, fd, _, F.ok scbk0 (fun vs H Q E h => ?_) (fun cdv A outer s H vs Q E hr h => ?_), hm, F.kp, (F.b3), .nil, F.b3⟩
 ·obtain ⟨a, r, k, m, rfl, ha, hk, hm, h100, hb, q⟩ := h
  rfl
 obtain ⟨a, r, k, m, rfl, ha, hk, hm, h100, hb, q⟩ := h
 have nd := scbk0.nd
 refine ⟨_, (Qae (Qak (i := 3) nd rfl (Or.inr rfl) (Qgr (Qap op_gt (Qam Qai (pv 0) (pv 1) (fun _ _ => rfl)) Qaf (nomark _)) Qaf (Qjw Qga Qaf)))
  (Qag (Qat (Qbm (Qaa (Qan Qav (pv 3) (Qam Qai (pv 0) (pv 1) (fun _ _ => rfl))) (Qaa (Qc2 [3] rfl (LcOk.free ["sign"] rfl rfl (List.forall_mem_cons.mpr ⟨rfl, (fun _ h => nomatch h)⟩) (by decide+kernel) rfl (by decide+kernel) rfl (by decide+kernel) (show (["number", "sign"] : List Str).Nodup from by decide+kernel) (List.forall_mem_cons.mpr ⟨⟨_, rfl, rfl, rfl, by decide+kernel⟩, (fun _ h => nomatch h)⟩)) (Qax (Qa3 Qbf (pv 0) (Qa9 (pv 2)) Qbl)) (fun C s2 H2 fp xe => (Qan Qav (pv 1) (pv 0)))) Qad)))))), ?_⟩
 have hline : 600 ≤ sizeLine := by decide
 apply join1 (fun (x : Int) => x = sgp r k)
 ·intro kk
  refine ⟨_, rfl, _, rfl, .inl ⟨a, _, _, _, rfl, rfl, SqL.of ha, atInt hk, _, _, rfl, rfl, _, rfl, ?_⟩⟩
  refine dec2 (fun h => ?_) (fun h => ?_)
  ·obtain ⟨x, ex⟩ : ∃ x, x = (1 : Int) := ⟨_, rfl⟩
   rw [← ex]
   exact kk x (by rw [ex]; exact (if_pos h).symm)
  ·exact ⟨_, rfl, kk (-1) (if_neg h).symm⟩
 intro s1 es
 have b1 : s1.natAbs < 2 ^ 1 := by
  rw [es]
  unfold sgp
  split <;> decide
 have lm : ((r.drop m).map V.int).length = r.length - m := by rw [List.length_map, List.length_drop]
 refine ⟨_, rfl, _, rfl, _, rfl, .inl ⟨a, _, _, _, rfl, rfl, SqL.of ha, atInt hk, _, _, rfl, rfl, mulN b1 (N45.Qcu hb k) (by omega) (by omega), ?_⟩⟩
 refine ⟨_, rfl, _, rfl, _, rfl, a, _, rfl, SqL.of ha, fun x1 hx1 => ?_⟩
 have c1 : cutV (r.map V.int) (some (m : Int)) none = (r.drop m).map V.int := by
  rw [cutD (by rw [List.length_map]; exact hm), List.map_drop]
 rw [c1]
 have f1 := Qac (o := .lst ((r.drop m).map V.int)) hx1
 have hx1v : upd H x1 (.lst ((r.drop m).map V.int)) x1 = some (.lst ((r.drop m).map V.int)) := Qab
 generalize upd H x1 (.lst ((r.drop m).map V.int)) = H1 at f1 hx1v ⊢
 refine ⟨x1, rfl, ⟨_, SqL.of hx1v⟩, ?_⟩
 refine Qbz (xs := (r.drop m).map V.int) (fun i ys H' => ys = (((r.drop m).take i).map fun x => s1 * x).map V.int ∧ H' = H1) ⟨rfl, rfl⟩ (by omega) ?_ ?_ ?_
 ·rintro i ys H' hi ⟨rfl, rfl⟩
  refine ⟨SqL.of hx1v, ?_⟩
  rw [List.length_map, List.length_map, List.length_take, List.length_drop]
  omega
 ·rintro i x ys H' hx ⟨rfl, rfl⟩
  obtain ⟨w, hw, rfl⟩ := Qc4 hx
  have bw : N45.Bt 1990 w := hb w (List.mem_of_mem_drop (List.mem_of_getElem? hw))
  refine ⟨_, rfl, _, rfl, _, _, rfl, rfl, mulN b1 bw (by omega) (by omega), ?_, rfl⟩
  rw [Qcx hw, List.map_append, List.map_append]
  rfl
 rintro ys H' ⟨rfl, rfl⟩ l hl
 rw [List.length_map, List.take_length]
 have f2 := Qac (o := .lst (((r.drop m).map fun x => s1 * x).map V.int)) hl
 refine ⟨(by show 2 ≤ sizeLine; decide), fun t ht => ?_⟩
 have f3 := Qac (o := .tup [.int (s1 * N45.gt r k), .ref l]) ht
 rw [es] at f2 f3 ht ⊢
 exact q t l _ ((f1.trans f2).trans f3) (f1.free hl) ((f1.trans f2).free ht) Qab (f3 _ _ Qab)
theorem scbl0 : FnScope ["square", "many", "both"] ["square"] (defScope sbl0) := fsc
theorem okbl0 (D : Def K mg "paper_of" sbl0 .none) (cbv0 : Cal P w K mg base CX0 true 4 "turned" ["square"] [] spTurn) (cbk0 : Cal P w K mg base CX0 true 1 "pair_of" ["numbers", "place", "many"] [] spPair) (z_len : mg "len" = none) (z_enumerate : mg "enumerate" = none) : Cal P w K mg base CX0 true 5 "paper_of" ["square"] [] spPapN := by
 obtain ⟨f, fd, F, hm⟩ := D
 obtain ⟨fbv0, fdbv0, dbv0, Gbv0, mbv0, kbv0, bbv0, vbv0, bbv01⟩ := cbv0
 obtain ⟨fbk0, fdbk0, dbk0, Gbk0, mbk0, kbk0, bbk0, vbk0, bbk01⟩ := cbk0
 refine ⟨f, fd, _, F.ok scbl0 (fun vs H Q E h => ?_) (fun cdv A outer s H vs Q E hr h => ?_), hm, F.kp, (F.b1), .nil, F.b1⟩
 ·obtain ⟨a, Z, E, rfl, ha, hZ, hS, hn, q1⟩ := h
  rfl
 obtain ⟨a, Z, E, rfl, ha, hZ, hS, hn, q1⟩ := h
 have nd := scbl0.nd
 refine ⟨_, (Qae (Qak (i := 1) nd rfl (Or.inr rfl) (Qao Qaj rfl z_len Qa1 (Qaa (pv 0) Qad)))
  (Qae (Qak (i := 2) nd rfl (Or.inl rfl) (Qah Gbv0 (hr.mono (by decide)) rfl mbv0 kbv0 bbv0 Paired.nil pass0 (Qaa (pv 0) Qad)))
  (Qae (Qbq (Qap (Qem hr) (Qam Qai (pv 2) Qaf (fun _ _ => rfl)) (Qba Qad) (nomark _)) (Qag Qcp) Qay)
  (Qag (Qat (Qd7 (xs := ["place", "numbers"]) [1] rfl (LcOkT.free (xs := ["place", "numbers"]) ["many"] rfl rfl (List.forall_mem_cons.mpr ⟨rfl, (fun _ h => nomatch h)⟩) (by decide+kernel) rfl (by decide+kernel) (by decide+kernel) (by decide+kernel) (show (["place", "numbers", "many"] : List Str).Nodup from by decide+kernel) (List.forall_mem_cons.mpr ⟨⟨_, rfl, rfl, rfl, by decide+kernel⟩, (fun _ h => nomatch h)⟩)) (Qds rfl z_enumerate (Qaa (Qam Qai (pv 2) Qaf (fun _ _ => rfl)) Qad)) (Qcq rfl (LcOkT.free (xs := ["place", "numbers"]) ["many"] rfl rfl (List.forall_mem_cons.mpr ⟨rfl, (fun _ h => nomatch h)⟩) (by decide+kernel) rfl (by decide+kernel) (by decide+kernel) (by decide+kernel) (show (["place", "numbers", "many"] : List Str).Nodup from by decide+kernel) (List.forall_mem_cons.mpr ⟨⟨_, rfl, rfl, rfl, by decide+kernel⟩, (fun _ h => nomatch h)⟩))) (fun C s2 H2 fp xe => (Qah Gbk0 (hr.mono (by decide)) rfl mbk0 kbk0 bbk0 Paired.nil pass0 (Qaa (pv 1) (Qaa (pv 0) (Qaa (pv 2) Qad))))))))))), ?_⟩
 have hline : 10 ^ 6 ≤ sizeLine := by decide
 have lz : (rws Z).length = Z.length := List.length_map ..
 refine ⟨_, rfl, a, _, rfl, .inl (SqL.of ha), ?_⟩
 rw [Qbk]
 refine ⟨_, rfl, a, Z, E, rfl, ha, hZ, hS, fun t la lb A B H1 e1 ht hla hlb hA hB hv => ?_⟩
 obtain ⟨hq, h6, he⟩ := hS
 obtain ⟨tl, tr⟩ := N45.Qhj hq (p := Z.length) (by omega)
 have hvA : rws A = (N45.trn (rws Z) Z.length).1 := congrArg Prod.fst hv
 have hvB : rws B = (N45.trn (rws Z) Z.length).2 := congrArg Prod.snd hv
 rw [← hvA, ← hvB] at tl tr
 rw [List.length_map, List.length_map, lz] at tl
 have rA : ∀ z ∈ A, z.2.length = 2 * Z.length ∧ ∀ x ∈ z.2, N45.Bt 1990 x := fun z hz => by
  have := tr z.2 (List.mem_append_left _ (List.mem_map.mpr ⟨z, hz, rfl⟩))
  rw [lz] at this
  exact ⟨this.1, fun x hx => (this.2 x hx).mono he⟩
 have hT := SqT.of (K := K) ht
 refine ⟨_, rfl, .inr (.inl ⟨t, _, 1, _, rfl, rfl, hT, rfl, (by show 0 ≤ sizeLine; decide), fun l0 hl0 => ?_⟩)⟩
 have f0 := Qac (o := .lst []) hl0
 have e2 := e1.trans f0
 refine ⟨lb, l0, _, _, rfl, rfl, SqL.of (f0 _ _ hlb), SqL.of Qab, ?_⟩
 have ht2 := f0 _ _ ht
 have hla2 := f0 _ _ hla
 have hlb2 := f0 _ _ hlb
 have hA2 := hA.same f0
 have hB2 := hB.same f0
 generalize upd H1 l0 (.lst []) = H2 at f0 e2 ht2 hla2 hlb2 hA2 hB2 ⊢
 have hT := SqT.of (K := K) ht2
 cases B with
 | cons b B' => exact absurd (hvB.trans hn) (by simp [rws])
 | nil =>
   refine .inr ⟨⟨rfl, fun j x y h1 h2 => by simp at h2⟩, _, rfl, iteF ?_⟩
   have lA : A.length = Z.length := by simpa using tl
   have lAr : (rfz A).length = A.length := Qbk A
   refine ⟨_, rfl, .inr (.inl ⟨t, _, 0, _, rfl, rfl, hT, rfl, la, rfl, ⟨_, SqL.of hla2⟩, ?_⟩)⟩
   refine Qia (xs := rfz A) (fun i ys H' => ∃ Y : List Pr, ys = rfp Y ∧ Same H2 H' ∧ PP H' Y ∧ prs Y = (List.range i).map (fun k => prF ((rws A).getD k []) k Z.length) ∧ ∀ y ∈ Y, H y.2.2.1 = none ∧ H y.1 = none) ⟨[], rfl, Qas _, (fun z hz => nomatch hz), rfl, fun y hy => nomatch hy⟩ (by omega) ?_ ?_ ?_
   ·rintro i ys H' hi ⟨Y, rfl, e, _, hY, _⟩
    refine ⟨SqL.of (e _ _ hla2), ?_⟩
    have := congrArg List.length hY
    rw [List.length_map, List.length_map, List.length_range] at this
    rw [Qc1]
    exact this
   ·rintro i x ys H' t2 hx ⟨Y, rfl, e, hY, hYv, hY0⟩ ht2 σ0 h0
    obtain ⟨z, hz, rfl⟩ := Qez hx
    obtain ⟨u, v, rfl⟩ := Qd4 h0
    have et := Qac (o := .tup [.int (i : Int), .ref z.1]) ht2
    have e3 := e.trans et
    have zm := List.mem_of_getElem? hz
    have hi : i < A.length := (List.getElem?_eq_some_iff.mp hz).1
    refine ⟨t2, _, rfl, SqT.of Qab, rfl, _, _, rfl, _, _, rfl, rfl, [_, _], rfl, rfl, ?_⟩
    refine ⟨_, rfl, _, rfl, _, rfl, z.1, z.2, i, Z.length, rfl, e3 _ _ (hA2 z zm), by have := (rA z zm).1; omega, by have := (rA z zm).1; omega, by have := (rA z zm).1; omega, (rA z zm).2, fun y yl H'' e4 hyl hyt hy hyl2 => ?_⟩
    have e5 := et.trans e4
    refine ⟨Y ++ [(y, (prF z.2 i Z.length).1, yl, (prF z.2 i Z.length).2)], by rw [Qlw]; rfl, e.trans e5, fun w hw => ?_, ?_, fun w hw => ?_⟩
    ·rcases List.mem_append.mp hw with c | c
     ·exact hY.same e5 w c
     ·rw [List.mem_singleton.mp c]
      exact ⟨hy, hyl2⟩
    ·rw [Qlx, hYv, List.range_succ, List.map_append]
     refine congrArg _ ?_
     show [prF z.2 i Z.length] = [prF ((rws A).getD i []) i Z.length]
     rw [Qgj hz]
    ·rcases List.mem_append.mp hw with c | c
     ·exact hY0 w c
     ·rw [List.mem_singleton.mp c]
      exact ⟨e2.free (e3.free hyl), e2.free (e3.free hyt)⟩
   rintro ys H' ⟨Y, rfl, e, hY, hYv, hY0⟩ p hp
   have f := Qac (o := .lst (rfp Y)) hp
   refine q1 p Y _ (e2.trans (e.trans f)) Qab (hY.same f) ?_ ((e2.trans e).free hp) hY0
   rw [hYv, lAr, lA]
   unfold pap
   rw [lz, ← hvA]
theorem Qmc {n i : Nat} (h : i < n) : ixN n ((i : Nat) : Int) = some i := by
 unfold ixN
 rw [if_pos (by omega), if_pos (by omega), Int.toNat_natCast]
def spSq : Sp := fun vs H Q _ => ∃ (fl l : Addr) (fs : List Str) (R : List Rw) (gs es : List Str), vs = [.ref fl, .ref l] ∧ H fl = some (.lst (fs.map V.str)) ∧ fs.Nodup ∧ fs.length ≤ 8 ∧ H l = some (.lst (rfw R)) ∧ RX H gs es R ∧ R.length ≤ 100 ∧
 ∀ (p : Addr) (Z : List Lz) H', Same H H' → H p = none → H' p = some (.lst (rfz Z)) → LL H' Z → (∀ z ∈ Z, H z.1 = none ∧ z.1 ≠ p) → (Z.map (·.1)).Nodup → Z.map (·.2) = fs.map (dueR fs R) → Q (.ref p) H'
theorem scbq0 : FnScope ["firms", "rows", "square", "place", "firm", "numbers"] ["firms", "rows"] (defScope sbq0) := fsc
theorem okbq0 (D : Def K mg "square_of" sbq0 .none) (cbp0 : Cal P w K mg base CX0 true 1 "shares_of" ["rows", "holder", "firm"] [] spHeld) (car0 : Cal P w K mg base CX0 true 1 "all_shares" ["rows", "firm"] [] spAll) (z_enumerate : mg "enumerate" = none) : Cal P w K mg base CX0 true 2 "square_of" ["firms", "rows"] [] spSq := by
 obtain ⟨f, fd, F, hm⟩ := D
 obtain ⟨fbp0, fdbp0, dbp0, Gbp0, mbp0, kbp0, bbp0, vbp0, bbp01⟩ := cbp0
 obtain ⟨far0, fdar0, dar0, Gar0, mar0, kar0, bar0, var0, bar01⟩ := car0
 refine ⟨f, fd, _, F.ok scbq0 (fun vs H Q E h => ?_) (fun cdv A outer s H vs Q E hr h => ?_), hm, F.kp, (F.b2), .nil, F.b2⟩
 ·obtain ⟨fl, l, fs, R, gs, es, rfl, hfl, hnd, hf8, hl, hR, hlen, q⟩ := h
  rfl
 obtain ⟨fl, l, fs, R, gs, es, rfl, hfl, hnd, hf8, hl, hR, hlen, q⟩ := h
 have nd := scbq0.nd
 refine ⟨_, (Qae (Qak (i := 2) nd rfl (Or.inl rfl) (Qba Qad))
  (Qae (Qbe PassesOwn.never rfl (Qds rfl z_enumerate (Qaa (pv 0) Qad)) (Qc6 rfl (Qa2 (Qau (i := 3) nd rfl (Or.inl rfl)) (Qa2 (Qau (i := 4) nd rfl (Or.inr rfl)) Qcb))) (Qae (Qgp [1, 4] (i := 5) nd rfl (Or.inl rfl) rfl (LcOk.free ["rows", "firm"] rfl rfl (List.forall_mem_cons.mpr ⟨rfl, (List.forall_mem_cons.mpr ⟨rfl, (fun _ h => nomatch h)⟩)⟩) (by decide+kernel) rfl (by decide+kernel) rfl (by decide+kernel) (show (["holder", "rows", "firm"] : List Str).Nodup from by decide+kernel) (List.forall_mem_cons.mpr ⟨⟨_, rfl, rfl, rfl, by decide+kernel⟩, (List.forall_mem_cons.mpr ⟨⟨_, rfl, rfl, rfl, by decide+kernel⟩, (fun _ h => nomatch h)⟩)⟩)) (Qax (pv 0)) (fun C s2 H2 fp xe => (Qjw Qga (Qah Gbp0 (hr.mono (by decide)) rfl mbp0 kbp0 bbp0 Paired.nil pass0 (Qaa (pv 1) (Qaa (pv 0) (Qaa (pv 2) Qad)))))))
  (Qae (ps_asg (Qan Qbp (Qam Qai (pv 5) (pv 3) (fun _ _ => rfl)) (Qah Gar0 (hr.mono (by decide)) rfl mar0 kar0 bar0 Paired.nil pass0 (Qaa (pv 1) (Qaa (pv 4) Qad)))) (pg_sub (pv 5) (pv 3) Qjt))
  (Qag (Qby (Qc7 PySem.F.plainAttrs_list PySem.F.slot_list_append PySem.F.type_list_append Qbs (pv 2) (Qaa (pv 5) Qad)))))))
  (Qag (Qat (pv 2))))), ?_⟩
 have hline : 10 ^ 6 ≤ sizeLine := by decide
 have lfm : (fs.map V.str).length = fs.length := List.length_map ..
 refine ⟨(by show 0 ≤ sizeLine; decide), fun p hp => ?_⟩
 have e1 := Qac (o := .lst []) hp
 refine ⟨_, rfl, fl, rfl, ⟨_, SqL.of (e1 _ _ hfl)⟩, ?_⟩
 refine Qep (xs := fs.map V.str) (fun i σ H' => ∃ (o3 o4 o5 : Option V) (Z : List Lz), σ = [some (.ref fl), some (.ref l), some (.ref p), o3, o4, o5] ∧ Same H H' ∧ H' p = some (.lst (rfz Z)) ∧ LL H' Z ∧ (∀ z ∈ Z, H z.1 = none ∧ z.1 ≠ p) ∧ (Z.map (·.1)).Nodup ∧ Z.map (·.2) = (fs.take i).map (dueR fs R)) ⟨_, _, _, [], rfl, e1, Qab, (fun z hz => nomatch hz), (fun z hz => nomatch hz), List.nodup_nil, rfl⟩ ?_ ?_ ?_
 ·rintro i σ H1 hi ⟨o3, o4, o5, Z, rfl, e, _⟩
  exact SqL.of (e _ _ hfl)
 ·rintro i x σ H1 t hx ⟨o3, o4, o5, Z, rfl, e, hpp, hZ, hZ0, hZn, hZv⟩ ht
  obtain ⟨f, hf, rfl⟩ := Qbu hx
  have hi8 : i < fs.length := (List.getElem?_eq_some_iff.mp hf).1
  have hZl : Z.length ≤ 8 := by
   have := congrArg List.length hZv
   rw [List.length_map, List.length_map, List.length_take] at this
   omega
  have et := Qac (o := .tup [.int (i : Int), .str f]) ht
  have e2 := e.trans et
  refine ⟨t, _, rfl, SqT.of Qab, rfl, _, _, rfl, _, _, rfl, rfl, ?_⟩
  refine ⟨_, rfl, fl, rfl, ⟨_, SqL.of (e2 _ _ hfl)⟩, ?_⟩
  refine Qbz (xs := fs.map V.str) (fun j ys H2 => ys = ((fs.take j).map fun h => -held R h f).map V.int ∧ Same (upd H1 t (.tup [.int (i : Int), .str f])) H2) ⟨rfl, fun _ _ h => h⟩ (by omega) ?_ ?_ ?_
  ·rintro j ys H2 hj ⟨rfl, e3⟩
   refine ⟨SqL.of (e3 _ _ (e2 _ _ hfl)), ?_⟩
   rw [List.length_map, List.length_map, List.length_take]
   omega
  ·rintro j x ys H2 hx2 ⟨rfl, e3⟩
   obtain ⟨h, hh, rfl⟩ := Qbu hx2
   refine ⟨_, rfl, _, rfl, _, rfl, l, R, h, f, gs, es, rfl, e3 _ _ (e2 _ _ hl), (hR.same e2).same e3, hlen, fun H3 e4 => ⟨_, rfl, ?_, e3.trans e4⟩⟩
   rw [Qaw hh, List.map_append, List.map_append]
   rfl
  rintro ys H2 ⟨rfl, e3⟩ n hn
  rw [lfm, List.take_length]
  have hnl : (fs.map fun h => -held R h f).length = fs.length := List.length_map ..
  have f1 := Qac (o := .lst ((fs.map fun h => -held R h f).map V.int)) hn
  have hx := Qjg (ws := fs.map fun h => -held R h f) (n := i) (by omega)
  have e23 := e2.trans e3
  have e2f := e23.trans f1
  refine ⟨_, rfl, _, rfl, .inl ⟨n, _, _, _, rfl, rfl, SqL.of Qab, hx, _, rfl, _, rfl, l, R, f, gs, es, rfl, e2f _ _ hl, hR.same e2f, hlen, fun H3 e4 => ⟨_, _, rfl, rfl, _, rfl, _, rfl, n, _, _, _, rfl, rfl, e4 _ _ Qab, Qmc (by rw [List.length_map]; omega), ?_⟩⟩⟩
  have nn : H n = none := e23.free hn
  have hp2 := e3 _ _ (et _ _ hpp)
  have nnp : n ≠ p := fun w => by
   rw [w, hp2] at hn
   cases hn
  have hp3 := e4 _ _ (f1 _ _ hp2)
  have hset : (((fs.map fun h => -held R h f).map V.int).set i (V.int ((fs.map fun h => -held R h f).getD i 0 + alls R f))) = (dueR fs R f).map V.int := by
   rw [← Qmp hnd hf, List.map_set]
  refine ⟨_, rfl, .inl ⟨rfl, _, SqL.of (by rw [Qar (Ne.symm nnp)]; exact hp3)⟩, _, rfl, p, _, _, rfl, rfl, (by rw [Qar (Ne.symm nnp)]; exact hp3), (by rw [Qbk]; omega), ?_⟩
  refine ⟨_, _, _, Z ++ [(n, dueR fs R f)], rfl, Qbo (Qbo (e2f.trans e4) nn) hp, (by rw [Qab, Qc0]; rfl), fun z hz => ?_, fun z hz => ?_, ?_, ?_⟩
  ·rcases List.mem_append.mp hz with w | w
   ·have h0 := e3 _ _ (et _ _ (hZ z w))
    have nzn : z.1 ≠ n := fun u => by
     rw [← u, h0] at hn
     cases hn
    rw [Qar (hZ0 z w).2, Qar nzn]
    exact e4 _ _ (f1 _ _ h0)
   ·rw [List.mem_singleton.mp w, Qar nnp, Qab]
    show some (HO.lst _) = some (HO.lst _)
    rw [← hset]
  ·rcases List.mem_append.mp hz with w | w
   ·exact hZ0 z w
   ·rw [List.mem_singleton.mp w]
    exact ⟨nn, nnp⟩
  ·rw [List.map_append]
   refine List.nodup_append.mpr ⟨hZn, by simp, fun y hy y2 hy2 => ?_⟩
   obtain ⟨z, hz, rfl⟩ := List.mem_map.mp hy
   rw [List.mem_singleton.mp hy2]
   intro u
   have h0 := e3 _ _ (et _ _ (hZ z hz))
   rw [show z.1 = n from u, hn] at h0
   cases h0
  ·rw [Qaw hf, List.map_append, List.map_append, hZv]
   rfl
 rintro σ H1 ⟨o3, o4, o5, Z, rfl, e, hpp, hZ, hZ0, hZn, hZv⟩
 rw [lfm, List.take_length] at hZv
 exact ⟨_, rfl, q p Z _ e hp hpp hZ hZ0 hZn hZv⟩
theorem rk_all {fs : List Str} {R : List Rw} {D : List (Str × Int)} (h : Rk fs R) (h0 : fnd fs R D = []) : ringL fs D = [] := by
 obtain ⟨r, hr⟩ := h
 have key : ∀ n, ∀ f ∈ fs, r f < n → f ∈ D.map (·.1) := by
  intro n
  induction n with
  | zero => exact fun f _ h => absurd h (Nat.not_lt_zero _)
  | succ n ih =>
    intro f hf hn
    refine Decidable.byContradiction fun w => ?_
    obtain ⟨z, hz, q1, q2⟩ := hr f hf
    have : f ∈ fnd fs R D := Qdy.mpr ⟨hf, w, z, hz, q1, by
     by_cases c : z.2.1 ∈ fs
     ·rcases q2 with q2 | q2
      ·exact .inl q2
      ·exact .inr (ih _ c (by omega))
     ·exact .inl c⟩
    rw [h0] at this
    cases this
 refine List.eq_nil_iff_forall_not_mem.mpr fun x hx => ?_
 obtain ⟨a, b⟩ := Qhq.mp hx
 exact b (key _ x a (Nat.lt_succ_self _))
structure Tb (fs : List Str) (R : List Rw) : Prop where
 nd : fs.Nodup
 l6 : fs.length ≤ 6
 rl : R.length ≤ 62
 inn : ∀ z ∈ R, z.2.2.1 ∈ fs
 s1 : ∀ z ∈ R, 1 ≤ z.2.2.2
 s2 : ∀ z ∈ R, z.2.2.2 ≤ 1000000
 rk : Rk fs R
def spChk : Sp := fun vs H Q _ => ∃ (fl l : Addr) (fs : List Str) (R : List Rw) (gs es : List Str), vs = [.ref fl, .ref l] ∧ H fl = some (.lst (fs.map V.str)) ∧ H l = some (.lst (rfw R)) ∧ RX H gs es R ∧ Tb fs R ∧ ∀ H', Same H H' → Q .non H'
theorem scas0 : FnScope ["firms", "rows", "firm", "ring", "holder", "shares"] ["firms", "rows"] (defScope sas0) := fsc
theorem okas0 (D : Def K mg "checked" sas0 .none) (cbj0 : Cal P w K mg base CX0 true 1 "owners_of" ["rows", "firm"] [] spOwn) (cbo0 : Cal P w K mg base CX0 true 4 "ring_of" ["firms", "rows"] [] spRing) : Cal P w K mg base CX0 true 5 "checked" ["firms", "rows"] [] spChk := by
 obtain ⟨f, fd, F, hm⟩ := D
 obtain ⟨fbj0, fdbj0, dbj0, Gbj0, mbj0, kbj0, bbj0, vbj0, bbj01⟩ := cbj0
 obtain ⟨fbo0, fdbo0, dbo0, Gbo0, mbo0, kbo0, bbo0, vbo0, bbo01⟩ := cbo0
 refine ⟨f, fd, _, F.ok scas0 (fun vs H Q E h => ?_) (fun cdv A outer s H vs Q E hr h => ?_), hm, F.kp, (F.b2), .nil, F.b2⟩
 ·obtain ⟨fl, l, fs, R, gs, es, rfl, hfl, hl, hR, T, q⟩ := h
  rfl
 obtain ⟨fl, l, fs, R, gs, es, rfl, hfl, hl, hR, T, q⟩ := h
 have nd := scas0.nd
 refine ⟨_, (Qae (Qbe PassesOwn.never rfl (Qax (pv 1)) (Qc6 rfl (Qa2 (Qau (i := 4) nd rfl (Or.inl rfl)) (Qa2 (Qau (i := 2) nd rfl (Or.inl rfl)) (Qa2 (Qau (i := 5) nd rfl (Or.inl rfl)) Qcb)))) (Qag (Qbq (Qap Qb4 (pv 2) (pv 0) (by with_unfolding_all rfl)) (Qag Qcp) Qay)))
  (Qae (Qbe PassesOwn.never rfl (Qax (pv 1)) (Qc6 rfl (Qa2 (Qau (i := 4) nd rfl (Or.inl rfl)) (Qa2 (Qau (i := 2) nd rfl (Or.inl rfl)) (Qa2 (Qau (i := 5) nd rfl (Or.inl rfl)) Qcb)))) (Qag (Qbq (Qap Qjz (pv 5) Qaf (nomark _)) (Qag Qcp) Qay)))
  (Qae (Qbe PassesOwn.never rfl (Qax (pv 0)) (Qau (i := 2) nd rfl (Or.inl rfl)) (Qag (Qbq (Qap (Qj0 hr) (Qah Gbj0 (hr.mono (by decide)) rfl mbj0 kbj0 bbj0 Paired.nil pass0 (Qaa (pv 1) (Qaa (pv 2) Qad))) (Qba Qad) (nomark _)) (Qag Qcp) Qay)))
  (Qae (Qak (i := 3) nd rfl (Or.inl rfl) (Qah Gbo0 (hr.mono (by decide)) rfl mbo0 kbo0 bbo0 Paired.nil pass0 (Qaa (pv 0) (Qaa (pv 1) Qad))))
  (Qag (Qbq (Qap (Qem hr) (pv 3) (Qba Qad) (nomark _)) (Qag Qcp) Qay)))))), ?_⟩
 have hline : 10 ^ 6 ≤ sizeLine := by decide
 obtain ⟨hnd, h6, hlen, hin, hs1, hs2, hrk⟩ := T
 refine ⟨_, rfl, l, rfl, ⟨_, SqL.of hl⟩, ?_⟩
 refine Qbw (xs := rfw R) (fun i σ H' => ∃ (o2 o3 o4 : Option V), σ = [some (.ref fl), some (.ref l), o3, none, o2, o4] ∧ H' = H) ⟨_, _, _, rfl, rfl⟩ ?_ ?_ ?_
 ·rintro i σ H1 hi ⟨o2, o3, o4, rfl, rfl⟩
  exact SqL.of hl
 ·rintro i x σ H1 hx ⟨o2, o3, o4, rfl, rfl⟩
  obtain ⟨y, hy, rfl⟩ := Qcv hx
  have hym := List.mem_of_getElem? hy
  have hTy := SqT.of (K := K) (hR y hym).1
  refine ⟨y.1, _, rfl, hTy, rfl, _, _, rfl, _, _, rfl, _, _, rfl, rfl, ?_⟩
  refine ⟨_, rfl, _, rfl, fl, _, rfl, .inl (SqL.of hfl), rfl, Qb2 _, _, rfl, ?_⟩
  rw [Qb3]
  exact ndecF (hin y hym) ⟨_, _, _, rfl, rfl⟩
 rintro σ H1 ⟨o2, o3, o4, rfl, rfl⟩
 refine ⟨_, rfl, l, rfl, ⟨_, SqL.of hl⟩, ?_⟩
 refine Qbw (xs := rfw R) (fun i σ H' => ∃ (o2 o3 o4 : Option V), σ = [some (.ref fl), some (.ref l), o3, none, o2, o4] ∧ H' = H1) ⟨_, _, _, rfl, rfl⟩ ?_ ?_ ?_
 ·rintro i σ H2 hi ⟨o2, o3, o4, rfl, rfl⟩
  exact SqL.of hl
 ·rintro i x σ H2 hx ⟨o2, o3, o4, rfl, rfl⟩
  obtain ⟨y, hy, rfl⟩ := Qcv hx
  have hym := List.mem_of_getElem? hy
  have hTy := SqT.of (K := K) (hR y hym).1
  refine ⟨y.1, _, rfl, hTy, rfl, _, _, rfl, _, _, rfl, _, _, rfl, rfl, ?_⟩
  have := hs1 y hym
  exact ⟨_, rfl, _, _, rfl, rfl, _, rfl, decF (by omega) ⟨_, _, _, rfl, rfl⟩⟩
 rintro σ H2 ⟨o2, o3, o4, rfl, rfl⟩
 refine ⟨_, rfl, fl, rfl, ⟨_, SqL.of hfl⟩, ?_⟩
 refine Qbw (xs := fs.map V.str) (fun i σ H' => ∃ (o2 o3 o4 : Option V), σ = [some (.ref fl), some (.ref l), o3, none, o2, o4] ∧ Same H2 H') ⟨_, _, _, rfl, Qas _⟩ ?_ ?_ ?_
 ·rintro i σ H3 hi ⟨o2, o3, o4, rfl, e3⟩
  exact SqL.of (e3 _ _ hfl)
 ·rintro i x σ H3 hx ⟨o2, o3, o4, rfl, e3⟩
  obtain ⟨f, hf, rfl⟩ := Qbu hx
  refine ⟨_, rfl, _, rfl, l, R, f, gs, es, rfl, e3 _ _ hl, hR.same e3, hlen, fun p zs H4 e4 hp0 hp mm pw => ⟨(by show 0 ≤ sizeLine; decide), fun l0 hl0 => ?_⟩⟩
  have f5 := Qac (o := .lst []) hl0
  refine ⟨p, l0, _, _, rfl, rfl, SqL.of (f5 _ _ hp), SqL.of Qab, .inl ⟨?_, _, rfl, iteF ⟨_, _, _, rfl, (e3.trans e4).trans f5⟩⟩⟩
  obtain ⟨r, hr⟩ := hrk
  obtain ⟨z, hz, q1, _⟩ := hr f (List.mem_of_getElem? hf)
  have : z.2.1 ∈ zs := (mm _).mpr ⟨z, hz, q1, rfl⟩
  cases zs with
  | nil => cases this
  | cons a b => simp
 rintro σ H3 ⟨o2, o3, o4, rfl, e3⟩
 refine ⟨_, rfl, _, rfl, fl, l, fs, R, gs, es, rfl, e3 _ _ hfl, hnd, by omega, e3 _ _ hl, hR.same e3, hlen, fun p zs D n H4 e4 hp0 hp LI1 hf1 pm pw => ?_⟩
 refine ⟨_, rfl, (by show 0 ≤ sizeLine; decide), fun l0 hl0 => ?_⟩
 have f5 := Qac (o := .lst []) hl0
 rw [rk_all hrk hf1] at pm
 have hz0 := pm.eq_nil
 subst hz0
 refine ⟨p, l0, _, _, rfl, rfl, SqL.of (f5 _ _ hp), SqL.of Qab, .inr ⟨⟨rfl, fun j x y h => nomatch h⟩, _, rfl, iteF ?_⟩⟩
 exact q _ ((e3.trans e4).trans f5)
def spCkp : Sp := fun vs H Q _ => ∃ (fl l : Addr) (fs : List Str) (R : List Rw) (gs es : List Str), vs = [.ref fl, .ref l] ∧ H fl = some (.lst (fs.map V.str)) ∧ H l = some (.lst (rfw R)) ∧ RX H gs es R ∧ Tb fs R ∧
 ∀ (t : Addr) (Y : List Pr) H', Same H H' → H' t = some (.lst (rfp Y)) → PP H' Y → prs Y = pap (fs.map (dueR fs R)) → H t = none → Q (.ref t) H'
theorem scat0 : FnScope ["firms", "rows"] ["firms", "rows"] (defScope sat0) := fsc
theorem okat0 (D : Def K mg "checked_paper" sat0 .none) (cas0 : Cal P w K mg base CX0 true 5 "checked" ["firms", "rows"] [] spChk) (cbl0 : Cal P w K mg base CX0 true 5 "paper_of" ["square"] [] spPapN) (cbq0 : Cal P w K mg base CX0 true 2 "square_of" ["firms", "rows"] [] spSq) : Cal P w K mg base CX0 true 6 "checked_paper" ["firms", "rows"] [] spCkp := by
 obtain ⟨f, fd, F, hm⟩ := D
 obtain ⟨fas0, fdas0, das0, Gas0, mas0, kas0, bas0, vas0, bas01⟩ := cas0
 obtain ⟨fbl0, fdbl0, dbl0, Gbl0, mbl0, kbl0, bbl0, vbl0, bbl01⟩ := cbl0
 obtain ⟨fbq0, fdbq0, dbq0, Gbq0, mbq0, kbq0, bbq0, vbq0, bbq01⟩ := cbq0
 refine ⟨f, fd, _, F.ok scat0 (fun vs H Q E h => ?_) (fun cdv A outer s H vs Q E hr h => ?_), hm, F.kp, (F.b2), .nil, F.b2⟩
 ·obtain ⟨fl, l, fs, R, gs, es, rfl, hfl, hl, hR, T, q⟩ := h
  rfl
 obtain ⟨fl, l, fs, R, gs, es, rfl, hfl, hl, hR, T, q⟩ := h
 have nd := scat0.nd
 refine ⟨_, (Qae (Qby (Qah Gas0 (hr.mono (by decide)) rfl mas0 kas0 bas0 Paired.nil pass0 (Qaa (pv 0) (Qaa (pv 1) Qad))))
  (Qag (Qat (Qah Gbl0 (hr.mono (by decide)) rfl mbl0 kbl0 bbl0 Paired.nil pass0 (Qaa (Qah Gbq0 (hr.mono (by decide)) rfl mbq0 kbq0 bbq0 Paired.nil pass0 (Qaa (pv 0) (Qaa (pv 1) Qad))) Qad))))), ?_⟩
 refine ⟨_, rfl, _, rfl, fl, l, fs, R, gs, es, rfl, hfl, hl, hR, T, fun H1 e1 => ?_⟩
 refine ⟨_, rfl, _, rfl, fl, l, fs, R, gs, es, rfl, e1 _ _ hfl, T.nd, by have := T.l6; omega, e1 _ _ hl, hR.same e1, by have := T.rl; omega, fun p Z H2 e2 hp0 hp hZ hZ0 hZn hZv => ?_⟩
 have lz : Z.length = fs.length := by
  have := congrArg List.length hZv
  rw [List.length_map, List.length_map] at this
  exact this
 have sq := Qix (fs := fs) T.s1 T.s2 T.rl
 refine ⟨p, Z, 26, rfl, hp, hZ, ⟨by show N45.Squ (Z.map (·.2)) 26; rw [hZv]; exact sq, by rw [lz]; exact T.l6, by rw [lz]; exact ex26 T.l6⟩, ?_, fun t Y H3 e3 ht hY hYv ht0 _ => ?_⟩
 ·have := N45.Qfl sq (Qeb T.nd T.s1 T.rk)
  rw [List.length_map] at this
  show (N45.trn (Z.map (·.2)) Z.length).2 = []
  rw [hZv, lz]
  exact this
 ·refine q t Y _ ((e1.trans e2).trans e3) ht hY ?_ ((e1.trans e2).free ht0)
  rw [hYv]
  show pap (Z.map (·.2)) = _
  rw [hZv]
def frc (t b : Int) : Int × Int := (Int.fdiv t (N11.gF t b), Int.fdiv b (N11.gF t b))
theorem Qb9 {t b : Int} (hb : 1 ≤ b) : 1 ≤ (frc t b).2 ∧ (frc t b).2.natAbs ≤ b.natAbs ∧ (frc t b).1.natAbs ≤ t.natAbs ∧ N11.gF (frc t b).1 (frc t b).2 = 1 ∧ (frc t b).1 * b = t * (frc t b).2 := by
 have e : N11.dF t b = N11.gF t b := if_neg (by omega)
 have h := N11.lowD (t := t) (b := b) (by omega)
 rw [e] at h
 exact ⟨h.1, by have := h.1; have := h.2.1; show (Int.fdiv b (N11.gF t b)).natAbs ≤ _; omega, h.2.2.1, h.2.2.2.1, h.2.2.2.2⟩
theorem Qfz {t b : Int} (hb : 1 ≤ b) : N11.gF t b ≠ 0 ∧ (N11.gF t b).natAbs ≤ b.natAbs := by
 have h := N11.dF_in (t := t) (b := b) (by omega)
 rw [show N11.dF t b = N11.gF t b from if_neg (by omega)] at h
 exact h
structure PapOk (S : List (List Int)) (Y : List (Int × List Int)) : Prop where
 len : Y.length = S.length
 ato : ∀ k y, Y[k]? = some y → 1 ≤ y.1 ∧ N45.Bt 1991 y.1 ∧ y.2.length = S.length ∧ (∀ x ∈ y.2, N45.Bt 1991 x) ∧ ∀ j < S.length, N45.mx S y.2 j = if j = k then y.1 else 0
theorem Qls (r : List Int) (k : Nat) : (sgp r k).natAbs < 2 ^ 1 := by
 unfold sgp
 split <;> decide
theorem pap_ok {S : List (List Int)} {E : Nat} (hS : N45.Squ S E) (hE : N45.ex E S.length ≤ 1990) (hB : (N45.trn S S.length).2 = []) : PapOk S (pap S) := by
 obtain ⟨tl, tp⟩ := N45.Qhi hS hB
 refine ⟨by unfold pap; rw [List.length_map, List.length_range], fun k y hy => ?_⟩
 unfold pap at hy
 rw [List.getElem?_map] at hy
 have hk : k < S.length := by
  refine Classical.byContradiction fun c => ?_
  rw [List.getElem?_eq_none (by rw [List.length_range]; omega)] at hy
  cases hy
 rw [List.getElem?_range hk] at hy
 have ey : y = prF ((N45.trn S S.length).1.getD k []) k S.length := (Option.some.inj hy).symm
 have hg : (N45.trn S S.length).1[k]? = some ((N45.trn S S.length).1.getD k []) := by
  rw [List.getD_eq_getElem?_getD, List.getElem?_eq_getElem (by omega)]
  rfl
 obtain ⟨a1, a2, a3, _, a5, a6⟩ := tp k hk _ hg
 generalize (N45.trn S S.length).1.getD k [] = r at ey a1 a2 a3 a5 a6
 subst ey
 have a3 : ∀ x ∈ r, N45.Bt 1990 x := fun x hx => (a3 x hx).mono hE
 have hs := Qls r k
 refine ⟨?_, ?_, ?_, ?_, fun j hj => ?_⟩
 ·show 1 ≤ sgp r k * N45.gt r k
  unfold sgp
  split <;> omega
 ·have := N45.Bt.mul (show N45.Bt 1 (sgp r k) from hs) (N45.Qcu a3 k)
  exact this.mono (by decide)
 ·show ((r.drop S.length).map fun x => sgp r k * x).length = _
  rw [List.length_map, List.length_drop]
  omega
 ·intro x hx
  obtain ⟨u, hu, rfl⟩ := List.mem_map.mp hx
  have := N45.Bt.mul (show N45.Bt 1 (sgp r k) from hs) (a3 u (List.mem_of_mem_drop hu))
  exact this.mono (by decide)
 ·show N45.mx S ((r.drop S.length).map fun x => sgp r k * x) j = if j = k then sgp r k * N45.gt r k else 0
  rw [N45.Qh4 S _ _ (by rw [List.length_drop]; omega), ← a6 j hj]
  by_cases c : j = k
  ·rw [if_pos c, c]
  ·rw [if_neg c, a5 j hj c, Int.mul_zero]
def btm (Y : List (Int × List Int)) : Int := Y.foldr (fun y d => y.1 * d) 1
theorem Qi9 : ∀ {Y : List (Int × List Int)}, (∀ y ∈ Y, 1 ≤ y.1) → 0 < btm Y
 | [], _ => by decide
 | y :: Y, h => Int.mul_pos (by have := h y List.mem_cons_self; omega) (Qi9 fun z hz => h z (List.mem_cons_of_mem _ hz))
theorem Qf5 : ∀ {Y : List (Int × List Int)} {y : Int × List Int}, y ∈ Y → y.1 ∣ btm Y
 | z :: Y, y, h => by
   show y.1 ∣ z.1 * btm Y
   rcases List.mem_cons.mp h with rfl | h
   ·exact Int.dvd_mul_right _ _
   ·exact Int.dvd_mul_of_dvd_right (Qf5 h)
def tms (Y : List (Int × List Int)) (j : Nat) : List Int := (Y.getD j (1, [])).2.map fun x => btm Y / (Y.getD j (1, [])).1 * x
theorem Qfs {S : List (List Int)} {Y : List (Int × List Int)} (h : PapOk S Y) : N45.Inv S (btm Y) (tms Y) := by
 have g : ∀ j < S.length, Y[j]? = some (Y.getD j (1, [])) := fun j hj => by
  rw [List.getD_eq_getElem?_getD, List.getElem?_eq_getElem (by rw [h.len]; exact hj)]
  rfl
 refine ⟨Qi9 fun y hy => ?_, fun j hj => ?_, fun j hj i hi => ?_⟩
 ·obtain ⟨k, hk, e⟩ := List.getElem_of_mem hy
  exact (h.ato k y (by rw [← e]; exact List.getElem?_eq_getElem hk)).1
 ·unfold tms
  rw [List.length_map]
  exact (h.ato j _ (g j hj)).2.2.1
 ·obtain ⟨a1, _, a3, _, a5⟩ := h.ato j _ (g j hj)
  unfold tms
  rw [N45.Qh4 S _ _ a3, a5 i hi]
  by_cases c : i = j
  ·rw [if_pos c, if_pos c, Int.ediv_mul_cancel (Qf5 (List.mem_of_getElem? (g j hj)))]
  ·rw [if_neg c, if_neg c, Int.mul_zero]
def dot (h r : List Int) : Int := N45.sm h.length fun k => N45.gt h k * N45.gt r k
theorem Qlc {h r : List Int} {n m : Nat} (h1 : ∀ x ∈ h, N45.Bt n x) (h2 : ∀ x ∈ r, N45.Bt m x) : N45.Bt (n + m + h.length) (dot h r) := N45.sm_bt fun k _ => N45.Bt.mul (N45.Qcu h1 k) (N45.Qcu h2 k)
def spFrN : Sp := fun vs H Q _ => ∃ t b : Int, vs = [.int t, .int b] ∧ 1 ≤ b ∧ N45.Bt 8000 b ∧ ∀ p, H p = none → Q (.ref p) (upd H p (.tup [.int (frc t b).1, .int (frc t b).2]))
def spSP : Sp := fun vs H Q _ => ∃ (a b : Addr) (h r : List Int) (d : Int), vs = [.ref a, .int d, .ref b] ∧ H a = some (.lst (h.map V.int)) ∧ H b = some (.lst (r.map V.int)) ∧ h.length = r.length ∧ h.length ≤ 8 ∧ (∀ x ∈ h, N45.Bt 30 x) ∧ (∀ x ∈ r, N45.Bt 1991 x) ∧ 1 ≤ d ∧ N45.Bt 4000 d ∧
 ∀ p H', Same H H' → H p = none → H' p = some (.tup [.int (frc (dot h r) d).1, .int (frc (dot h r) d).2]) → Q (.ref p) H'
abbrev Fr := Addr × Int × Int
def rff (F : List Fr) : List V := F.map fun z => .ref z.1
theorem Qbd (F : List Fr) : (rff F).length = F.length := List.length_map ..
theorem Qb6 (A B : List Fr) : rff (A ++ B) = rff A ++ rff B := List.map_append ..
theorem Qd5 {F : List Fr} {i : Nat} {x : V} (h : (rff F)[i]? = some x) : ∃ z, F[i]? = some z ∧ x = .ref z.1 := by
 unfold rff at h
 rw [List.getElem?_map] at h
 cases e : F[i]? with
 | none => rw [e] at h; cases h
 | some z => rw [e] at h; exact ⟨z, rfl, (Option.some.inj h).symm⟩
theorem Qjf {F : List Fr} {i : Nat} {z : Fr} (h : F[i]? = some z) : (rff F)[i]? = some (.ref z.1) := by
 unfold rff
 rw [List.getElem?_map, h]
 rfl
def FF (H : Hp) (F : List Fr) : Prop := ∀ z ∈ F, H z.1 = some (.tup [.int z.2.1, .int z.2.2])
theorem FF.same {H H' : Hp} {F : List Fr} (h : FF H F) (e : Same H H') : FF H' F := fun z hz => e _ _ (h z hz)
theorem FF.app {H : Hp} {A B : List Fr} (h1 : FF H A) (h2 : FF H B) : FF H (A ++ B) := fun z hz => (List.mem_append.mp hz).elim (h1 z) (h2 z)
abbrev Tl := Addr × Str × Addr × List Fr
def rft (W : List Tl) : List V := W.map fun z => .ref z.1
theorem Qch (W : List Tl) : (rft W).length = W.length := List.length_map ..
theorem Qdr (A B : List Tl) : rft (A ++ B) = rft A ++ rft B := List.map_append ..
theorem Qkt {F : List Tl} {i : Nat} {x : V} (h : (rft F)[i]? = some x) : ∃ z, F[i]? = some z ∧ x = .ref z.1 := by
 unfold rft at h
 rw [List.getElem?_map] at h
 cases e : F[i]? with
 | none => rw [e] at h; cases h
 | some z => rw [e] at h; exact ⟨z, rfl, (Option.some.inj h).symm⟩
theorem at_rft {F : List Tl} {i : Nat} {z : Tl} (h : F[i]? = some z) : (rft F)[i]? = some (.ref z.1) := by
 unfold rft
 rw [List.getElem?_map, h]
 rfl
def TT (H : Hp) (W : List Tl) : Prop := ∀ z ∈ W, H z.1 = some (.tup [.str z.2.1, .ref z.2.2.1]) ∧ H z.2.2.1 = some (.lst (rff z.2.2.2)) ∧ FF H z.2.2.2
theorem TT.same {H H' : Hp} {W : List Tl} (h : TT H W) (e : Same H H') : TT H' W := fun z hz => ⟨e _ _ (h z hz).1, e _ _ (h z hz).2.1, (h z hz).2.2.same e⟩
theorem TT.keep {H : Hp} {W : List Tl} {t : Addr} {xs ys : List V} (h : TT H W) (ht : H t = some (.lst xs)) (hn : ∀ w ∈ W, w.2.2.1 ≠ t) : TT (upd H t (.lst ys)) W := fun w hw => ⟨Qbn (h w hw).1 ht, by rw [Qar (hn w hw)]; exact (h w hw).2.1, fun z hz => Qbn ((h w hw).2.2 z hz) ht⟩
def hol (R : List Rw) (fs : List Str) (s : Str) : List Int := fs.map fun f => held R s f
theorem Qdv (R : List Rw) (fs : List Str) (s : Str) : (hol R fs s).length = fs.length := List.length_map ..
theorem Qip {R : List Rw} {fs : List Str} (T : Tb fs R) (s : Str) : ∀ x ∈ hol R fs s, N45.Bt 30 x := fun x hx => by
 obtain ⟨f, _, rfl⟩ := List.mem_map.mp hx
 have a := Qfx T.s1 s f
 have b := Qir T.s1 T.s2 s f
 have c := T.rl
 unfold N45.Bt
 omega
theorem Qdg {R : List Rw} {fs : List Str} (T : Tb fs R) : PapOk (fs.map (dueR fs R)) (pap (fs.map (dueR fs R))) := by
 have sq := Qix (fs := fs) T.s1 T.s2 T.rl
 exact pap_ok sq (by rw [List.length_map]; exact ex26 T.l6) (N45.Qfl sq (Qeb T.nd T.s1 T.rk))
def spPts (Vv : List Str → List Rw → List Tl → Prop) : Sp := fun vs H Q _ => ∃ (fl l : Addr) (fs : List Str) (R : List Rw) (gs es : List Str), vs = [.ref fl, .ref l] ∧ H fl = some (.lst (fs.map V.str)) ∧ H l = some (.lst (rfw R)) ∧ RX H gs es R ∧ Tb fs R ∧ ∀ (t : Addr) (W : List Tl) H', Same H H' → H' t = some (.lst (rft W)) → TT H' W → Vv fs R W → W.length ≤ 62 → Q (.ref t) H'
def Vlst (fs : List Str) (R : List Rw) (W : List Tl) : Prop := ∀ w ∈ W, w.2.2.2.map (·.2) = (pap (fs.map (dueR fs R))).map fun y => frc (dot (hol R fs w.2.1) y.2) y.1
theorem logW {y : Int} (h0 : y ≠ 0) (h : y.natAbs < 2 ^ 8000) : y ≠ 0 ∧ y.natAbs.log2 < 9000 := by
 have n0 : y.natAbs ≠ 0 := by omega
 have := (Nat.log2_lt n0).mpr h
 exact ⟨h0, by omega⟩
theorem scay0 : FnScope ["top", "bottom", "shared"] ["top", "bottom"] (defScope say0) := fsc
theorem okay0 {Tay0 : Addr} (D : Def K mg "fraction" say0 (.ref Tay0)) {oday0 : Option Addr} {nay0 : Nat} {slay0 : Array Q5} {tkay0 : Tok} (lTay0 : K.lookup Tay0 = some ⟨.type "tuple", oday0, .seq #[.int 1 tkay0] nay0, slay0⟩) (cav0 : Cal P w K mg base CX0 true 1 "divisor" ["one", "other"] [] spG) : Cal P w K mg base CX0 true 2 "fraction" ["top", "bottom"] [.int 1] spFrN := by
 obtain ⟨f, fd, F, hm⟩ := D
 obtain ⟨fav0, fdav0, dav0, Gav0, mav0, kav0, bav0, vav0, bav01⟩ := cav0
 refine ⟨f, fd, _, F.ok scay0 (fun vs H Q E h => ?_) (fun cdv A outer s H vs Q E hr h => ?_), hm, F.kp, (F.bindsD (ds := []) lTay0 2 rfl fun _ _ _ _ _ _ us hl => match us, hl with | [_, _], _ => ⟨_, rfl, rfl⟩), (.cons ⟨_, rfl⟩ .nil), F.bindsD (ds := [.int 1 tkay0]) lTay0 1 rfl fun _ _ _ _ _ _ us hl => match us, hl with | [_], _ => ⟨_, rfl, rfl⟩⟩
 ·obtain ⟨t, b, rfl, hb, hbt, q⟩ := h
  rfl
 obtain ⟨t, b, rfl, hb, hbt, q⟩ := h
 have nd := scay0.nd
 refine ⟨_, (Qae (Qbq (Qap Qb7 (pv 1) Qaf (nomark _)) (Qag Qcp) Qay)
  (Qae (Qak (i := 2) nd rfl (Or.inl rfl) (Qah Gav0 (hr.mono (by decide)) rfl mav0 kav0 bav0 Paired.nil pass0 (Qaa (pv 0) (Qaa (pv 1) Qad))))
  (Qae (Qbq (Qap Qjz (pv 1) Qaf (nomark _)) (Qag (Qak (i := 2) nd rfl (Or.inl rfl) (Qjw Qga (pv 2)))) Qay)
  (Qag (Qat (Qbm (Qaa (Qan Qb5 (pv 0) (pv 2)) (Qaa (Qan Qb5 (pv 1) (pv 2)) Qad)))))))), ?_⟩
 obtain ⟨g0, g1⟩ := Qfz (t := t) hb
 have g2 : (N11.gF t b).natAbs < 2 ^ 8000 := Nat.lt_of_le_of_lt g1 hbt
 refine ⟨_, rfl, rfl, _, rfl, decF (fun z => by have := V.int.inj z; omega) ?_⟩
 refine ⟨_, rfl, _, rfl, _, _, rfl, ?_⟩
 refine ⟨_, rfl, _, _, rfl, rfl, _, rfl, decF (by omega) ?_⟩
 exact ⟨_, rfl, _, rfl, _, _, rfl, rfl, logW g0 g2, _, rfl, _, rfl, _, _, rfl, rfl, logW g0 g2, (by show 2 ≤ sizeLine; decide), q⟩
theorem scbr0 : FnScope ["held", "d", "row"] ["held", "d", "row"] (defScope sbr0) := fsc
theorem okbr0 (D : Def K mg "stranger_part" sbr0 .none) (cay0 : Cal P w K mg base CX0 true 2 "fraction" ["top", "bottom"] [.int 1] spFrN) (z_sum : mg "sum" = none) (z_zip : mg "zip" = none) : Cal P w K mg base CX0 true 3 "stranger_part" ["held", "d", "row"] [] spSP := by
 obtain ⟨f, fd, F, hm⟩ := D
 obtain ⟨fay0, fday0, day0, Gay0, may0, kay0, bay0, vay0, bay01⟩ := cay0
 refine ⟨f, fd, _, F.ok scbr0 (fun vs H Q E h => ?_) (fun cdv A outer s H vs Q E hr h => ?_), hm, F.kp, (F.b3), .nil, F.b3⟩
 ·obtain ⟨a, b, h, r, d, rfl, ha, hb, hl, h8, hbh, hbr, hd, hdb, q⟩ := h
  rfl
 obtain ⟨a, b, h, r, d, rfl, ha, hb, hl, h8, hbh, hbr, hd, hdb, q⟩ := h
 have nd := scbr0.nd
 refine ⟨_, (Qag (Qat (Qah Gay0 (hr.mono (by decide)) rfl may0 kay0 bay0 Paired.nil pass0 (Qaa (Qao (Qct hr) rfl z_sum Qed (Qaa (Qd7 (xs := ["shares", "number"]) [] rfl (LcOkT.plain (xs := ["shares", "number"]) (by decide+kernel) (by decide+kernel) rfl (by decide+kernel) (by decide+kernel) (by decide+kernel)) (Qhy rfl z_zip (Qaa (pv 0) (Qaa (pv 2) Qad))) (Qcq rfl (LcOkT.plain (xs := ["shares", "number"]) (by decide+kernel) (by decide+kernel) rfl (by decide+kernel) (by decide+kernel) (by decide+kernel))) (fun C s2 H2 fp xe => (Qan Qav (pv 0) (pv 1)))) Qad)) (Qaa (pv 1) Qad))))), ?_⟩
 have hline : 600 ≤ sizeLine := by decide
 have lh : (h.map V.int).length = h.length := List.length_map ..
 have lr : (r.map V.int).length = r.length := List.length_map ..
 refine ⟨_, rfl, _, rfl, a, b, rfl, ⟨_, SqL.of ha⟩, ⟨_, SqL.of hb⟩, ?_⟩
 refine Qk4 (xs := h.map V.int) (ys := r.map V.int) (fun i zs H' => zs = ((List.range i).map fun k => N45.gt h k * N45.gt r k).map V.int ∧ Same H H') ⟨rfl, Qas _⟩ (by omega) (by omega) ?_ ?_ ?_
 ·rintro i zs H' hi ⟨rfl, e⟩
  refine ⟨SqL.of (e _ _ ha), SqL.of (e _ _ hb), ?_⟩
  rw [List.length_map, List.length_map, List.length_range]
 ·rintro i x1 x2 zs H' t hx1 hx2 ⟨rfl, e1⟩ ht σ0 h0
  obtain ⟨w1, hw1, rfl⟩ := Qc4 hx1
  obtain ⟨w2, hw2, rfl⟩ := Qc4 hx2
  obtain ⟨u, v, rfl⟩ := Qd4 h0
  have et := Qac (o := .tup [.int w1, .int w2]) ht
  refine ⟨t, _, rfl, SqT.of Qab, rfl, _, _, rfl, _, _, rfl, rfl, [_, _], rfl, rfl, ?_⟩
  refine ⟨_, rfl, _, rfl, _, _, rfl, rfl, mulN (hbh _ (List.mem_of_getElem? hw1)) (hbr _ (List.mem_of_getElem? hw2)) (by omega) (by omega), ?_, e1.trans et⟩
  have e1 : N45.gt h i = w1 := by
   have := N45.Qcm (List.getElem?_eq_some_iff.mp hw1).1
   rw [hw1] at this
   exact (Option.some.inj this).symm
  have e2 : N45.gt r i = w2 := by
   have := N45.Qcm (List.getElem?_eq_some_iff.mp hw2).1
   rw [hw2] at this
   exact (Option.some.inj this).symm
  rw [List.range_succ, List.map_append, List.map_append]
  show _ = _ ++ [V.int (N45.gt h i * N45.gt r i)]
  rw [e1, e2]
 rintro zs H' ⟨rfl, e⟩ k1 hk1
 have f1 := Qac (o := .lst (((List.range (h.map V.int).length).map fun k => N45.gt h k * N45.gt r k).map V.int)) hk1
 have es : ((List.range (h.map V.int).length).map fun k => N45.gt h k * N45.gt r k).sum = dot h r := by
  rw [N45.Qgf, lh]
  rfl
 refine ⟨k1, _, rfl, SqL.of Qab, ?_⟩
 rw [es]
 refine ⟨_, rfl, _, _, rfl, hd, hdb.mono (by decide), fun p hp => ?_⟩
 exact q p _ ((e.trans f1).trans (Qac hp)) ((e.trans f1).free hp) Qab
theorem scbb0 : FnScope ["firms", "rows", "paper", "told", "stranger", "held"] ["firms", "rows"] (defScope sbb0) := fsc
theorem okbb0 (D : Def K mg "last_parts" sbb0 .none) (cat0 : Cal P w K mg base CX0 true 6 "checked_paper" ["firms", "rows"] [] spCkp) (cbs0 : Cal P w K mg base CX0 true 1 "strangers_of" ["firms", "rows"] [] spStrg) (cbp0 : Cal P w K mg base CX0 true 1 "shares_of" ["rows", "holder", "firm"] [] spHeld) (cbr0 : Cal P w K mg base CX0 true 3 "stranger_part" ["held", "d", "row"] [] spSP) : Cal P w K mg base CX0 true 7 "last_parts" ["firms", "rows"] [] (spPts Vlst) := by
 obtain ⟨f, fd, F, hm⟩ := D
 obtain ⟨fat0, fdat0, dat0, Gat0, mat0, kat0, bat0, vat0, bat01⟩ := cat0
 obtain ⟨fbs0, fdbs0, dbs0, Gbs0, mbs0, kbs0, bbs0, vbs0, bbs01⟩ := cbs0
 obtain ⟨fbp0, fdbp0, dbp0, Gbp0, mbp0, kbp0, bbp0, vbp0, bbp01⟩ := cbp0
 obtain ⟨fbr0, fdbr0, dbr0, Gbr0, mbr0, kbr0, bbr0, vbr0, bbr01⟩ := cbr0
 refine ⟨f, fd, _, F.ok scbb0 (fun vs H Q E h => ?_) (fun cdv A outer s H vs Q E hr h => ?_), hm, F.kp, (F.b2), .nil, F.b2⟩
 ·obtain ⟨fl, l, fs, R, gs, es, rfl, hfl, hl, hR, T, q⟩ := h
  rfl
 obtain ⟨fl, l, fs, R, gs, es, rfl, hfl, hl, hR, T, q⟩ := h
 have nd := scbb0.nd
 refine ⟨_, (Qae (Qak (i := 2) nd rfl (Or.inl rfl) (Qah Gat0 (hr.mono (by decide)) rfl mat0 kat0 bat0 Paired.nil pass0 (Qaa (pv 0) (Qaa (pv 1) Qad))))
  (Qae (Qak (i := 3) nd rfl (Or.inl rfl) (Qba Qad))
  (Qae (Qbe PassesOwn.never rfl (Qax (Qah Gbs0 (hr.mono (by decide)) rfl mbs0 kbs0 bbs0 Paired.nil pass0 (Qaa (pv 0) (Qaa (pv 1) Qad)))) (Qau (i := 4) nd rfl (Or.inr rfl)) (Qae (Qak (i := 5) nd rfl (Or.inr rfl) (Qc2 [1, 4] rfl (LcOk.free ["stranger", "rows"] rfl rfl (List.forall_mem_cons.mpr ⟨rfl, (List.forall_mem_cons.mpr ⟨rfl, (fun _ h => nomatch h)⟩)⟩) (by decide+kernel) rfl (by decide+kernel) rfl (by decide+kernel) (show (["firm", "rows", "stranger"] : List Str).Nodup from by decide+kernel) (List.forall_mem_cons.mpr ⟨⟨_, rfl, rfl, rfl, by decide+kernel⟩, (List.forall_mem_cons.mpr ⟨⟨_, rfl, rfl, rfl, by decide+kernel⟩, (fun _ h => nomatch h)⟩)⟩)) (Qax (pv 0)) (fun C s2 H2 fp xe => (Qah Gbp0 (hr.mono (by decide)) rfl mbp0 kbp0 bbp0 Paired.nil pass0 (Qaa (pv 1) (Qaa (pv 2) (Qaa (pv 0) Qad)))))))
  (Qag (Qby (Qc7 PySem.F.plainAttrs_list PySem.F.slot_list_append PySem.F.type_list_append Qbs (pv 3) (Qaa (Qbm (Qaa (pv 4) (Qaa (Qd7 (xs := ["d", "row"]) [5] rfl (LcOkT.free (xs := ["d", "row"]) ["held"] rfl rfl (List.forall_mem_cons.mpr ⟨rfl, (fun _ h => nomatch h)⟩) (by decide+kernel) rfl (by decide+kernel) (by decide+kernel) (by decide+kernel) (show (["d", "row", "held"] : List Str).Nodup from by decide+kernel) (List.forall_mem_cons.mpr ⟨⟨_, rfl, rfl, rfl, by decide+kernel⟩, (fun _ h => nomatch h)⟩)) (Qax (pv 2)) (Qcq rfl (LcOkT.free (xs := ["d", "row"]) ["held"] rfl rfl (List.forall_mem_cons.mpr ⟨rfl, (fun _ h => nomatch h)⟩) (by decide+kernel) rfl (by decide+kernel) (by decide+kernel) (by decide+kernel) (show (["d", "row", "held"] : List Str).Nodup from by decide+kernel) (List.forall_mem_cons.mpr ⟨⟨_, rfl, rfl, rfl, by decide+kernel⟩, (fun _ h => nomatch h)⟩))) (fun C s2 H2 fp xe => (Qah Gbr0 (hr.mono (by decide)) rfl mbr0 kbr0 bbr0 Paired.nil pass0 (Qaa (pv 2) (Qaa (pv 0) (Qaa (pv 1) Qad)))))) Qad))) Qad))))))
  (Qag (Qat (pv 3)))))), ?_⟩
 have hline : 10 ^ 6 ≤ sizeLine := by decide
 have lfm : (fs.map V.str).length = fs.length := List.length_map ..
 have h6 := T.l6
 have hlen := T.rl
 have hpo := Qdg T
 have lS : (fs.map (dueR fs R)).length = fs.length := List.length_map ..
 refine ⟨_, rfl, _, rfl, fl, l, fs, R, gs, es, rfl, hfl, hl, hR, T, fun pp Y H1 e1 hpp hY hYv hp0 => ?_⟩
 have lY : Y.length = fs.length := by
  have := congrArg List.length hYv
  rw [List.length_map, hpo.len, lS] at this
  exact this
 refine ⟨(by show 0 ≤ sizeLine; decide), fun t ht => ?_⟩
 have e2 := Qac (o := .lst []) ht
 have t0 := e1.free ht
 have htv : upd H1 t (.lst []) t = some (.lst []) := Qab
 have nY : ∀ y ∈ Y, y.1 ≠ t ∧ y.2.2.1 ≠ t := fun y hy => ⟨Qal (hY y hy).1 ht, Qal (hY y hy).2 ht⟩
 have npt : pp ≠ t := Qal hpp ht
 have hpp2 := e2 _ _ hpp
 have hY2 := hY.same e2
 generalize upd H1 t (.lst []) = H2 at e2 htv hpp2 hY2 ⊢
 have e12 := e1.trans e2
 refine ⟨_, rfl, _, rfl, fl, l, fs, R, gs, es, rfl, e12 _ _ hfl, e12 _ _ hl, hR.same e12, hlen, fun zp ns H3 e3 hz0 hzp mm pw => ?_⟩
 have lz : ns.length ≤ 62 := by
  have h1 := Qbv ns (R.map (·.2.1)) (Qgx pw) fun x hx => by
   obtain ⟨_, z, hz, h2⟩ := (mm x).mp hx
   exact List.mem_map.mpr ⟨z, hz, h2⟩
  rw [List.length_map] at h1
  omega
 have lzm : (ns.map V.str).length = ns.length := List.length_map ..
 have nzt : zp ≠ t := (Qal htv hz0).symm
 refine ⟨zp, rfl, ⟨_, SqL.of hzp⟩, ?_⟩
 generalize eY : pap (fs.map (dueR fs R)) = YY at hYv hpo
 refine Qbw (xs := ns.map V.str) (fun i σ H' => ∃ (o4 o5 : Option V) (W : List Tl), σ = [some (.ref fl), some (.ref l), some (.ref pp), some (.ref t), o4, o5] ∧ Same H H' ∧ (∀ a o, H3 a = some o → a ≠ t → H' a = some o) ∧ H' t = some (.lst (rft W)) ∧ TT H' W ∧ (∀ w ∈ W, w.2.2.1 ≠ t) ∧ W.length = i ∧ ∀ w ∈ W, w.2.2.2.map (·.2) = YY.map fun y => frc (dot (hol R fs w.2.1) y.2) y.1) ⟨_, _, [], rfl, e12.trans e3, (fun a o h _ => h), e3 _ _ htv, (fun z hz => nomatch hz), (fun z hz => nomatch hz), rfl, fun z hz => nomatch hz⟩ ?_ ?_ ?_
 ·rintro i σ H4 hi ⟨o4, o5, W, rfl, _, k4, _⟩
  exact SqL.of (k4 _ _ hzp nzt)
 ·rintro i x σ H4 hx ⟨o4, o5, W, rfl, E4, k3, ht4, hW, hWn, lW, hWv⟩
  have hi := (List.getElem?_eq_some_iff.mp hx).1
  have k4 : ∀ a o, H2 a = some o → a ≠ t → H4 a = some o := fun a o h => k3 a o (e3 _ _ h)
  obtain ⟨s, hs, rfl⟩ := Qbu hx
  refine ⟨_, rfl, fl, rfl, ⟨_, SqL.of (E4 _ _ hfl)⟩, ?_⟩
  refine Qbz (xs := fs.map V.str) (fun j ys H5 => ys = ((fs.take j).map fun f => held R s f).map V.int ∧ Same H4 H5) ⟨rfl, Qas _⟩ (by omega) ?_ ?_ ?_
  ·rintro j ys H5 hj ⟨rfl, e5⟩
   refine ⟨SqL.of (e5 _ _ (E4 _ _ hfl)), ?_⟩
   rw [List.length_map, List.length_map, List.length_take]
   omega
  ·rintro j x ys H5 hx ⟨rfl, e5⟩
   obtain ⟨f, hf, rfl⟩ := Qbu hx
   have e05 := E4.trans e5
   refine ⟨_, rfl, _, rfl, _, rfl, l, R, s, f, gs, es, rfl, e05 _ _ hl, hR.same e05, by omega, fun H6 e6 => ⟨?_, e5.trans e6⟩⟩
   rw [Qaw hf, List.map_append, List.map_append]
   rfl
  rintro ys H5 ⟨rfl, e5⟩ hd hhd0
  rw [lfm, List.take_length, show fs.map (fun f => held R s f) = hol R fs s from rfl]
  have f5 := Qac (o := .lst ((hol R fs s).map V.int)) hhd0
  have hhd : upd H5 hd (.lst ((hol R fs s).map V.int)) hd = some (.lst ((hol R fs s).map V.int)) := Qab
  have e6 := e5.trans f5
  generalize upd H5 hd (.lst ((hol R fs s).map V.int)) = H6 at f5 hhd e6 ⊢
  have ht6 := e6 _ _ ht4
  have hpp6 := e6 _ _ (k4 _ _ hpp2 npt)
  have hY6 : PP H6 Y := fun y hy => ⟨e6 _ _ (k4 _ _ (hY2 y hy).1 (nY y hy).1), e6 _ _ (k4 _ _ (hY2 y hy).2 (nY y hy).2)⟩
  refine ⟨_, rfl, .inl ⟨rfl, _, SqL.of ht6⟩, _, rfl, _, rfl, pp, rfl, ⟨_, SqL.of hpp6⟩, ?_⟩
  refine Qbz (xs := rfp Y) (fun j ys H7 => ∃ F : List Fr, ys = rff F ∧ Same H6 H7 ∧ FF H7 F ∧ F.map (·.2) = (YY.take j).map fun y => frc (dot (hol R fs s) y.2) y.1) ⟨[], rfl, Qas _, (fun z hz => nomatch hz), rfl⟩ (by rw [Qc1]; omega) ?_ ?_ ?_
  ·rintro j ys H7 hj ⟨F, rfl, e7, _, hF⟩
   refine ⟨SqL.of (e7 _ _ hpp6), ?_⟩
   have := congrArg List.length hF
   rw [List.length_map, List.length_map, List.length_take, hpo.len, lS] at this
   rw [Qc1] at hj
   rw [Qbd]
   omega
  ·rintro j x ys H7 hx ⟨F, rfl, e7, hF, hFv⟩ σ0 h0
   obtain ⟨y, hy, rfl⟩ := Qku hx
   obtain ⟨u, v, rfl⟩ := Qd4 h0
   have hy7 := (hY6.same e7) y (List.mem_of_getElem? hy)
   have hpy : YY[j]? = some (y.2.1, y.2.2.2) := by
    rw [← hYv, List.getElem?_map, hy]
    rfl
   obtain ⟨a1, a2, a3, a4, _⟩ := hpo.ato j _ hpy
   refine ⟨y.1, _, rfl, SqT.of hy7.1, rfl, _, _, rfl, _, _, rfl, rfl, [_, _], rfl, rfl, ?_⟩
   refine ⟨_, rfl, _, rfl, _, rfl, hd, y.2.2.1, hol R fs s, y.2.2.2, y.2.1, rfl, e7 _ _ hhd, hy7.2, by rw [Qdv, a3, lS], by rw [Qdv]; omega, Qip T s, a4, a1, a2.mono (by decide), fun p H8 e8 hp0' hp8 => ?_⟩
   refine ⟨F ++ [(p, frc (dot (hol R fs s) y.2.2.2) y.2.1)], by rw [Qb6]; rfl, e7.trans e8, (hF.same e8).app (fun z hz => by rw [List.mem_singleton.mp hz]; exact hp8), ?_⟩
   rw [Qaw hpy, List.map_append, List.map_append, hFv]
   rfl
  rintro ys H7 ⟨F, rfl, e7, hF, hFv⟩ pl hpl
  rw [Qc1, lY, List.take_of_length_le (by rw [hpo.len, lS]; exact Nat.le_refl _)] at hFv
  refine ⟨(by show 2 ≤ sizeLine; decide), fun y hy => ?_⟩
  have f7 := Qac (o := .lst (rff F)) hpl
  have f8 := Qac (o := .tup [.str s, .ref pl]) hy
  have e8 := e6.trans (e7.trans (f7.trans f8))
  have hpl8 := f8 _ _ (Qab (H := H7) (a := pl) (o := .lst (rff F)))
  have hy8 : upd (upd H7 pl (.lst (rff F))) y (.tup [.str s, .ref pl]) y = some (.tup [.str s, .ref pl]) := Qab
  have hF8 := hF.same (f7.trans f8)
  have nplt : pl ≠ t := (Qal (e7 _ _ ht6) hpl).symm
  generalize upd (upd H7 pl (.lst (rff F))) y (.tup [.str s, .ref pl]) = H8 at f8 e8 hpl8 hy8 hF8 ⊢
  have ht8 := e8 _ _ ht4
  have hT8 : TT H8 (W ++ [(y, s, pl, F)]) := fun w hw => by
   rcases List.mem_append.mp hw with c | c
   ·exact hW.same e8 w c
   ·rw [List.mem_singleton.mp c]
    exact ⟨hy8, hpl8, hF8⟩
  have hn8 : ∀ w ∈ W ++ [(y, s, pl, F)], w.2.2.1 ≠ t := fun w hw => by
   rcases List.mem_append.mp hw with c | c
   ·exact hWn w c
   ·rw [List.mem_singleton.mp c]
    exact nplt
  refine ⟨t, _, _, rfl, rfl, ht8, (by rw [Qch]; omega), ?_⟩
  refine ⟨_, _, W ++ [(y, s, pl, F)], rfl, Qbo (E4.trans e8) t0, (fun a o h hne => by rw [Qar hne]; exact e8 _ _ (k3 _ _ h hne)), (by rw [Qab, Qdr]; rfl), hT8.keep ht8 hn8, hn8, by rw [List.length_append, lW]; rfl, ?_⟩
  intro w hw
  rcases List.mem_append.mp hw with c | c
  ·exact hWv w c
  ·rw [List.mem_singleton.mp c]
   exact hFv
 rintro σ H4 ⟨o4, o5, W, rfl, E4, k4, ht4, hW, _, lW, hWv⟩
 exact ⟨_, rfl, q t W _ E4 ht4 hW (by unfold Vlst; rw [eY]; exact hWv) (by omega)⟩
theorem mulB {x y : Int} {n m : Nat} (h1 : N45.Bt n x) (h2 : N45.Bt m y) (hn : n ≤ 60000000) (hm : m ≤ 60000000) : IntMulOk x y :=
 PySem.IntMulOk.of_le (PySem.intBits_le_iff.mpr h1) (PySem.intBits_le_iff.mpr h2) (by omega)
theorem can_D {D a b : Int} (hD : 0 < D) (h : a * D = b * D) : a = b := Int.eq_of_mul_eq_mul_right (by omega) h
theorem Qi0 {S : List (List Int)} {D : Int} {A : Nat → List Int} (I : N45.Inv S D A) (h : N45.Mm S) {i : Nat} (hi : i < S.length) : 0 < N45.gt (A i) i := by
 have r := I.right h i hi i hi
 rw [if_pos rfl] at r
 have n0 := I.nn h i hi i hi
 refine Classical.byContradiction fun c => ?_
 have z : N45.gt (A i) i = 0 := by omega
 have : N45.sm S.length (fun j => N45.gt (S.getD i []) j * N45.gt (A j) i) ≤ 0 := N45.Qjq _ fun j hj => by
  by_cases d : i = j
  ·rw [← d, z, Int.mul_zero]
   exact Int.le_refl _
  ·exact Int.mul_nonpos_of_nonpos_of_nonneg (h.off i hi j hj d) (I.nn h j hj i hi)
 have := I.pos
 omega
def clm (Y : List (Int × List Int)) (i : Nat) : List (Int × Int) := Y.map fun y => frc (N45.gt y.2 i) y.1
def ovr (a b : Int × Int) : Int × Int := frc (a.1 * b.2) (a.2 * b.1)
theorem Qg5 {S : List (List Int)} {Y : List (Int × List Int)} (h : PapOk S Y) {i j : Nat} (hi : i < S.length) {c : Int × Int} (hc : (clm Y i)[j]? = some c) : 1 ≤ c.2 ∧ c.1 * btm Y = N45.gt (tms Y j) i * c.2 ∧ N45.Bt 1991 c.1 ∧ N45.Bt 1991 c.2 := by
 unfold clm at hc
 rw [List.getElem?_map] at hc
 cases hz : Y[j]? with
 | none => rw [hz] at hc; cases hc
 | some y =>
   rw [hz] at hc
   have ec := (Option.some.inj hc).symm
   subst ec
   obtain ⟨a1, a2, a3, a4, a5⟩ := h.ato j _ hz
   obtain ⟨b1, b2, b3, b4, b5⟩ := Qb9 (t := N45.gt y.2 i) a1
   have e : Y.getD j (1, []) = y := by
    rw [List.getD_eq_getElem?_getD, hz]
    rfl
   refine ⟨b1, ?_, Nat.lt_of_le_of_lt b3 (N45.Qcu a4 i), Nat.lt_of_le_of_lt b2 a2⟩
   have ed := Int.ediv_mul_cancel (Qf5 (List.mem_of_getElem? hz))
   unfold tms
   rw [e, N45.Qg0 _ (by omega)]
   generalize btm Y / y.1 = c at ed
   rw [← ed, Int.mul_left_comm, b5, Int.mul_assoc]
theorem Qk0 {D : Int} {a b : Int × Int} {u v : Int} (hD : 0 < D) (hv : 0 < v) (a1 : 1 ≤ a.2) (a2 : a.1 * D = u * a.2) (a3 : N45.Bt 1991 a.1) (a4 : N45.Bt 1991 a.2) (b1 : 1 ≤ b.2) (b2 : b.1 * D = v * b.2) (b3 : N45.Bt 1991 b.1) (b4 : N45.Bt 1991 b.2) :
 1 ≤ b.1 ∧ 1 ≤ (ovr a b).2 ∧ N11.gF (ovr a b).1 (ovr a b).2 = 1 ∧ (ovr a b).1 * v = u * (ovr a b).2 ∧ N45.Bt 4000 (ovr a b).1 ∧ N45.Bt 4000 (ovr a b).2 := by
 have p1 : 1 ≤ b.1 := by
  refine Classical.byContradiction fun c => ?_
  have x1 := Int.mul_nonpos_of_nonpos_of_nonneg (show b.1 ≤ 0 by omega) (Int.le_of_lt hD)
  have x2 := Int.mul_pos hv (show 0 < b.2 by omega)
  omega
 have p2 : 1 ≤ a.2 * b.1 := Int.mul_pos (by omega) (by omega)
 obtain ⟨c1, c2, c3, c4, c5⟩ := Qb9 (t := a.1 * b.2) p2
 refine ⟨p1, c1, c4, ?_, Nat.lt_of_le_of_lt c3 ((N45.Bt.mul a3 b4).mono (by decide)), Nat.lt_of_le_of_lt c2 ((N45.Bt.mul a4 b3).mono (by decide))⟩
 show (frc (a.1 * b.2) (a.2 * b.1)).1 * v = u * (frc (a.1 * b.2) (a.2 * b.1)).2
 generalize frc (a.1 * b.2) (a.2 * b.1) = f at c5
 have hp : 0 < a.2 * b.2 := Int.mul_pos (by omega) (by omega)
 refine can_D hp ?_
 have e1 : f.1 * v * (a.2 * b.2) = f.1 * (a.2 * b.1) * D := by
  rw [show f.1 * v * (a.2 * b.2) = f.1 * a.2 * (v * b.2) by simp only [Int.mul_assoc, Int.mul_left_comm], ← b2]
  simp only [Int.mul_assoc]
 have e2 : u * f.2 * (a.2 * b.2) = a.1 * b.2 * f.2 * D := by
  rw [show u * f.2 * (a.2 * b.2) = u * a.2 * (f.2 * b.2) by simp only [Int.mul_assoc, Int.mul_left_comm], ← a2]
  simp only [Int.mul_assoc, Int.mul_left_comm, Int.mul_comm]
 rw [e1, e2, c5]
def spOvr : Sp := fun vs H Q _ => ∃ (a b : Addr) (x y : Int × Int), vs = [.ref a, .ref b] ∧ H a = some (.tup [.int x.1, .int x.2]) ∧ H b = some (.tup [.int y.1, .int y.2]) ∧ 1 ≤ x.2 ∧ 1 ≤ y.1 ∧ N45.Bt 1991 x.1 ∧ N45.Bt 1991 x.2 ∧ N45.Bt 1991 y.1 ∧ N45.Bt 1991 y.2 ∧ ∀ p, H p = none → Q (.ref p) (upd H p (.tup [.int (ovr x y).1, .int (ovr x y).2]))
def Vfps (fs : List Str) (R : List Rw) (W : List Tl) : Prop := W.length = fs.length ∧ ∀ i w, W[i]? = some w → w.2.2.2.map (·.2) = (clm (pap (fs.map (dueR fs R))) i).map fun c => ovr c ((clm (pap (fs.map (dueR fs R))) i).getD i (0, 1))
theorem scbi0 : FnScope ["one", "other"] ["one", "other"] (defScope sbi0) := fsc
theorem okbi0 (D : Def K mg "over" sbi0 .none) (cay0 : Cal P w K mg base CX0 true 2 "fraction" ["top", "bottom"] [.int 1] spFrN) : Cal P w K mg base CX0 true 3 "over" ["one", "other"] [] spOvr := by
 obtain ⟨f, fd, F, hm⟩ := D
 obtain ⟨fay0, fday0, day0, Gay0, may0, kay0, bay0, vay0, bay01⟩ := cay0
 refine ⟨f, fd, _, F.ok scbi0 (fun vs H Q E h => ?_) (fun cdv A outer s H vs Q E hr h => ?_), hm, F.kp, (F.b2), .nil, F.b2⟩
 ·obtain ⟨a, b, x, y, rfl, ha, hb, x1, y1, x3, x4, y3, y4, q⟩ := h
  rfl
 obtain ⟨a, b, x, y, rfl, ha, hb, x1, y1, x3, x4, y3, y4, q⟩ := h
 have nd := scbi0.nd
 refine ⟨_, (Qag (Qat (Qah Gay0 (hr.mono (by decide)) rfl may0 kay0 bay0 Paired.nil pass0 (Qaa (Qan Qav (Qam Qai (pv 0) Qaf (fun _ _ => rfl)) (Qam Qai (pv 1) Qaf (fun _ _ => rfl))) (Qaa (Qan Qav (Qam Qai (pv 0) Qaf (fun _ _ => rfl)) (Qam Qai (pv 1) Qaf (fun _ _ => rfl))) Qad))))), ?_⟩
 have hTa := SqT.of (K := K) ha
 have hTb := SqT.of (K := K) hb
 refine ⟨_, rfl, .inr (.inl ⟨a, _, 0, _, rfl, rfl, hTa, rfl, _, rfl, .inr (.inl ⟨b, _, 1, _, rfl, rfl, hTb, rfl, _, _, rfl, rfl, mulB x3 y4 (by decide) (by decide), ?_⟩)⟩)⟩
 refine ⟨_, rfl, .inr (.inl ⟨a, _, 1, _, rfl, rfl, hTa, rfl, _, rfl, .inr (.inl ⟨b, _, 0, _, rfl, rfl, hTb, rfl, _, _, rfl, rfl, mulB x4 y3 (by decide) (by decide), ?_⟩)⟩)⟩
 exact ⟨_, _, rfl, Int.mul_pos (by omega) (by omega), (N45.Bt.mul x4 y3).mono (by decide), q⟩
theorem scaw0 : FnScope ["firms", "rows", "paper", "told", "place", "firm", "columns"] ["firms", "rows"] (defScope saw0) := fsc
theorem okaw0 (D : Def K mg "firm_parts" saw0 .none) (cat0 : Cal P w K mg base CX0 true 6 "checked_paper" ["firms", "rows"] [] spCkp) (cay0 : Cal P w K mg base CX0 true 2 "fraction" ["top", "bottom"] [.int 1] spFrN) (cbi0 : Cal P w K mg base CX0 true 3 "over" ["one", "other"] [] spOvr) (z_enumerate : mg "enumerate" = none) : Cal P w K mg base CX0 true 7 "firm_parts" ["firms", "rows"] [] (spPts Vfps) := by
 obtain ⟨f, fd, F, hm⟩ := D
 obtain ⟨fat0, fdat0, dat0, Gat0, mat0, kat0, bat0, vat0, bat01⟩ := cat0
 obtain ⟨fay0, fday0, day0, Gay0, may0, kay0, bay0, vay0, bay01⟩ := cay0
 obtain ⟨fbi0, fdbi0, dbi0, Gbi0, mbi0, kbi0, bbi0, vbi0, bbi01⟩ := cbi0
 refine ⟨f, fd, _, F.ok scaw0 (fun vs H Q E h => ?_) (fun cdv A outer s H vs Q E hr h => ?_), hm, F.kp, (F.b2), .nil, F.b2⟩
 ·obtain ⟨fl, l, fs, R, gs, es, rfl, hfl, hl, hR, T, q⟩ := h
  rfl
 obtain ⟨fl, l, fs, R, gs, es, rfl, hfl, hl, hR, T, q⟩ := h
 have nd := scaw0.nd
 refine ⟨_, (Qae (Qak (i := 2) nd rfl (Or.inl rfl) (Qah Gat0 (hr.mono (by decide)) rfl mat0 kat0 bat0 Paired.nil pass0 (Qaa (pv 0) (Qaa (pv 1) Qad))))
  (Qae (Qak (i := 3) nd rfl (Or.inl rfl) (Qba Qad))
  (Qae (Qbe PassesOwn.never rfl (Qds rfl z_enumerate (Qaa (pv 0) Qad)) (Qc6 rfl (Qa2 (Qau (i := 4) nd rfl (Or.inr rfl)) (Qa2 (Qau (i := 5) nd rfl (Or.inl rfl)) Qcb))) (Qae (Qak (i := 6) nd rfl (Or.inr rfl) (Qd7 (xs := ["d", "row"]) [4] rfl (LcOkT.free (xs := ["d", "row"]) ["place"] rfl rfl (List.forall_mem_cons.mpr ⟨rfl, (fun _ h => nomatch h)⟩) (by decide+kernel) rfl (by decide+kernel) (by decide+kernel) (by decide+kernel) (show (["d", "row", "place"] : List Str).Nodup from by decide+kernel) (List.forall_mem_cons.mpr ⟨⟨_, rfl, rfl, rfl, by decide+kernel⟩, (fun _ h => nomatch h)⟩)) (Qax (pv 2)) (Qcq rfl (LcOkT.free (xs := ["d", "row"]) ["place"] rfl rfl (List.forall_mem_cons.mpr ⟨rfl, (fun _ h => nomatch h)⟩) (by decide+kernel) rfl (by decide+kernel) (by decide+kernel) (by decide+kernel) (show (["d", "row", "place"] : List Str).Nodup from by decide+kernel) (List.forall_mem_cons.mpr ⟨⟨_, rfl, rfl, rfl, by decide+kernel⟩, (fun _ h => nomatch h)⟩))) (fun C s2 H2 fp xe => (Qah Gay0 (hr.mono (by decide)) rfl may0 kay0 bay0 Paired.nil pass0 (Qaa (Qam Qa0 (pv 1) (pv 2) (fun _ _ => rfl)) (Qaa (pv 0) Qad))))))
  (Qag (Qby (Qc7 PySem.F.plainAttrs_list PySem.F.slot_list_append PySem.F.type_list_append Qbs (pv 3) (Qaa (Qbm (Qaa (pv 5) (Qaa (Qc2 [6, 4] rfl (LcOk.free ["place", "columns"] rfl rfl (List.forall_mem_cons.mpr ⟨rfl, (List.forall_mem_cons.mpr ⟨rfl, (fun _ h => nomatch h)⟩)⟩) (by decide+kernel) rfl (by decide+kernel) rfl (by decide+kernel) (show (["one", "columns", "place"] : List Str).Nodup from by decide+kernel) (List.forall_mem_cons.mpr ⟨⟨_, rfl, rfl, rfl, by decide+kernel⟩, (List.forall_mem_cons.mpr ⟨⟨_, rfl, rfl, rfl, by decide+kernel⟩, (fun _ h => nomatch h)⟩)⟩)) (Qax (pv 6)) (fun C s2 H2 fp xe => (Qah Gbi0 (hr.mono (by decide)) rfl mbi0 kbi0 bbi0 Paired.nil pass0 (Qaa (pv 0) (Qaa (Qam Qa0 (pv 1) (pv 2) (fun _ _ => rfl)) Qad))))) Qad))) Qad))))))
  (Qag (Qat (pv 3)))))), ?_⟩
 have hline : 10 ^ 6 ≤ sizeLine := by decide
 have lfm : (fs.map V.str).length = fs.length := List.length_map ..
 have h6 := T.l6
 have hlen := T.rl
 have hpo := Qdg T
 have lS : (fs.map (dueR fs R)).length = fs.length := List.length_map ..
 refine ⟨_, rfl, _, rfl, fl, l, fs, R, gs, es, rfl, hfl, hl, hR, T, fun pp Y H1 e1 hpp hY hYv hp0 => ?_⟩
 have lY : Y.length = fs.length := by
  have := congrArg List.length hYv
  rw [List.length_map, hpo.len, lS] at this
  exact this
 refine ⟨(by show 0 ≤ sizeLine; decide), fun t ht => ?_⟩
 have e2 := Qac (o := .lst []) ht
 have t0 := e1.free ht
 have htv : upd H1 t (.lst []) t = some (.lst []) := Qab
 have nY : ∀ y ∈ Y, y.1 ≠ t ∧ y.2.2.1 ≠ t := fun y hy => ⟨Qal (hY y hy).1 ht, Qal (hY y hy).2 ht⟩
 have npt : pp ≠ t := Qal hpp ht
 have hpp2 := e2 _ _ hpp
 have hY2 := hY.same e2
 generalize upd H1 t (.lst []) = H2 at e2 htv hpp2 hY2 ⊢
 have e12 := e1.trans e2
 have M := Qeb T.nd T.s1 T.rk
 have I := Qfs hpo
 generalize eY : pap (fs.map (dueR fs R)) = YY at hYv hpo I
 refine ⟨_, rfl, fl, rfl, ⟨_, SqL.of (e12 _ _ hfl)⟩, ?_⟩
 refine Qep (xs := fs.map V.str) (fun i σ H' => ∃ (o4 o5 o6 : Option V) (W : List Tl), σ = [some (.ref fl), some (.ref l), some (.ref pp), some (.ref t), o4, o5, o6] ∧ Same H H' ∧ (∀ a o, H2 a = some o → a ≠ t → H' a = some o) ∧ H' t = some (.lst (rft W)) ∧ TT H' W ∧ (∀ w ∈ W, w.2.2.1 ≠ t) ∧ W.length = i ∧ ∀ j w, W[j]? = some w → w.2.2.2.map (·.2) = (clm YY j).map fun c => ovr c ((clm YY j).getD j (0, 1))) ⟨_, _, _, [], rfl, e12, (fun a o h _ => h), htv, (fun z hz => nomatch hz), (fun z hz => nomatch hz), rfl, fun j z hz => nomatch hz⟩ ?_ ?_ ?_
 ·rintro i σ H4 hi ⟨o4, o5, o6, W, rfl, E4, _⟩
  exact SqL.of (E4 _ _ hfl)
 ·rintro i x σ H4 tt hx ⟨o4, o5, o6, W, rfl, E4, k4, ht4, hW, hWn, lW, hWv⟩ htt
  obtain ⟨s, hs, rfl⟩ := Qbu hx
  have hi6 : i < fs.length := (List.getElem?_eq_some_iff.mp hs).1
  have f5 := Qac (o := .tup [.int (i : Int), .str s]) htt
  refine ⟨tt, _, rfl, SqT.of Qab, rfl, _, _, rfl, _, _, rfl, rfl, ?_⟩
  generalize upd H4 tt (.tup [.int (i : Int), .str s]) = H5 at f5 ⊢
  have hpp5 := f5 _ _ (k4 _ _ hpp2 npt)
  have hY5 : PP H5 Y := fun y hy => ⟨f5 _ _ (k4 _ _ (hY2 y hy).1 (nY y hy).1), f5 _ _ (k4 _ _ (hY2 y hy).2 (nY y hy).2)⟩
  refine ⟨_, rfl, pp, rfl, ⟨_, SqL.of hpp5⟩, ?_⟩
  refine Qbz (xs := rfp Y) (fun j ys H7 => ∃ F : List Fr, ys = rff F ∧ Same H5 H7 ∧ FF H7 F ∧ F.map (·.2) = (clm YY i).take j) ⟨[], rfl, Qas _, (fun z hz => nomatch hz), rfl⟩ (by rw [Qc1]; omega) ?_ ?_ ?_
  ·rintro j ys H7 hj ⟨F, rfl, e7, _, hF⟩
   refine ⟨SqL.of (e7 _ _ hpp5), ?_⟩
   have := congrArg List.length hF
   unfold clm at this
   rw [List.length_map, List.length_take, List.length_map, hpo.len, lS] at this
   rw [Qc1] at hj
   rw [Qbd]
   omega
  ·rintro j x ys H7 hx ⟨F, rfl, e7, hF, hFv⟩ σ0 h0
   obtain ⟨y, hy, rfl⟩ := Qku hx
   obtain ⟨u, v, rfl⟩ := Qd4 h0
   have hy7 := (hY5.same e7) y (List.mem_of_getElem? hy)
   have hpy : YY[j]? = some (y.2.1, y.2.2.2) := by
    rw [← hYv, List.getElem?_map, hy]
    rfl
   obtain ⟨a1, a2, a3, a4, _⟩ := hpo.ato j _ hpy
   have hcj : (clm YY i)[j]? = some (frc (N45.gt y.2.2.2 i) y.2.1) := by
    unfold clm
    rw [List.getElem?_map, hpy]
    rfl
   refine ⟨y.1, _, rfl, SqT.of hy7.1, rfl, _, _, rfl, _, _, rfl, rfl, [_, _], rfl, rfl, ?_⟩
   refine ⟨_, rfl, _, rfl, .inl ⟨y.2.2.1, _, _, _, rfl, rfl, SqL.of hy7.2, atInt (by rw [a3, lS]; exact hi6), _, rfl, _, _, rfl, a1, a2.mono (by decide), fun p hp => ?_⟩⟩
   have f8 := Qac (o := .tup [.int (frc (N45.gt y.2.2.2 i) y.2.1).1, .int (frc (N45.gt y.2.2.2 i) y.2.1).2]) hp
   refine ⟨F ++ [(p, frc (N45.gt y.2.2.2 i) y.2.1)], by rw [Qb6]; rfl, e7.trans f8, (hF.same f8).app (fun z hz => by rw [List.mem_singleton.mp hz]; exact Qab), ?_⟩
   rw [Qaw hcj, List.map_append, hFv]
   rfl
  rintro ys H7 ⟨F, rfl, e7, hF, hFv⟩ cl hcl
  have lc : (clm YY i).length = fs.length := by
   unfold clm
   rw [List.length_map, hpo.len, lS]
  rw [Qc1, lY, List.take_of_length_le (by omega)] at hFv
  have lF : F.length = fs.length := by
   have := congrArg List.length hFv
   rw [List.length_map] at this
   omega
  have f7 := Qac (o := .lst (rff F)) hcl
  have hcl7 : upd H7 cl (.lst (rff F)) cl = some (.lst (rff F)) := Qab
  have hF7 := hF.same f7
  have e47 := f5.trans (e7.trans f7)
  generalize upd H7 cl (.lst (rff F)) = H8 at f7 hcl7 hF7 e47 ⊢
  have ht8 := e47 _ _ ht4
  obtain ⟨zi, hzi⟩ := Qa4 (l := F) (k := i) (by omega)
  have hci : (clm YY i)[i]? = some zi.2 := by
   rw [← hFv, List.getElem?_map, hzi]
   rfl
  obtain ⟨c1, c2, c3, c4⟩ := Qg5 hpo (by rw [lS]; exact hi6) hci
  have egi : (clm YY i).getD i (0, 1) = zi.2 := by
   rw [List.getD_eq_getElem?_getD, hci]
   rfl
  have dp := Qi0 I M (i := i) (by rw [lS]; exact hi6)
  refine ⟨_, rfl, .inl ⟨rfl, _, SqL.of ht8⟩, _, rfl, _, rfl, cl, rfl, ⟨_, SqL.of hcl7⟩, ?_⟩
  refine Qbz (xs := rff F) (fun j ys H9 => ∃ G : List Fr, ys = rff G ∧ Same H8 H9 ∧ FF H9 G ∧ G.map (·.2) = ((clm YY i).take j).map fun c => ovr c zi.2) ⟨[], rfl, Qas _, (fun z hz => nomatch hz), rfl⟩ (by rw [Qbd]; omega) ?_ ?_ ?_
  ·rintro j ys H9 hj ⟨G, rfl, e9, _, hG⟩
   refine ⟨SqL.of (e9 _ _ hcl7), ?_⟩
   have := congrArg List.length hG
   rw [List.length_map, List.length_map, List.length_take] at this
   rw [Qbd] at hj ⊢
   omega
  ·rintro j x ys H9 hx ⟨G, rfl, e9, hG, hGv⟩
   obtain ⟨z, hz, rfl⟩ := Qd5 hx
   have hcj : (clm YY i)[j]? = some z.2 := by
    rw [← hFv, List.getElem?_map, hz]
    rfl
   obtain ⟨d1, d2, d3, d4⟩ := Qg5 hpo (by rw [lS]; exact hi6) hcj
   obtain ⟨o1, _⟩ := Qk0 I.pos dp d1 d2 d3 d4 c1 c2 c3 c4
   refine ⟨_, rfl, _, rfl, _, rfl, .inl ⟨cl, _, _, _, rfl, rfl, SqL.of (e9 _ _ hcl7), Qbr (Qjf hzi), z.1, zi.1, z.2, zi.2, rfl, e9 _ _ (hF7 z (List.mem_of_getElem? hz)), e9 _ _ (hF7 zi (List.mem_of_getElem? hzi)), d1, o1, d3, d4, c3, c4, fun p hp => ?_⟩⟩
   have f10 := Qac (o := .tup [.int (ovr z.2 zi.2).1, .int (ovr z.2 zi.2).2]) hp
   refine ⟨G ++ [(p, ovr z.2 zi.2)], by rw [Qb6]; rfl, e9.trans f10, (hG.same f10).app (fun w hw => by rw [List.mem_singleton.mp hw]; exact Qab), ?_⟩
   rw [Qaw hcj, List.map_append, List.map_append, hGv]
   rfl
  rintro ys H9 ⟨G, rfl, e9, hG, hGv⟩ pl hpl
  rw [Qbd, lF, List.take_of_length_le (by omega)] at hGv
  have ht9 := e9 _ _ ht8
  refine ⟨(by show 2 ≤ sizeLine; decide), fun y hy => ?_⟩
  have f7 := Qac (o := .lst (rff G)) hpl
  have f8 := Qac (o := .tup [.str s, .ref pl]) hy
  have e8 := (e47.trans e9).trans (f7.trans f8)
  have hpl8 := f8 _ _ (Qab (H := H9) (a := pl) (o := .lst (rff G)))
  have hy8 : upd (upd H9 pl (.lst (rff G))) y (.tup [.str s, .ref pl]) y = some (.tup [.str s, .ref pl]) := Qab
  have hG8 := hG.same (f7.trans f8)
  have nplt : pl ≠ t := (Qal (ht9) hpl).symm
  generalize upd (upd H9 pl (.lst (rff G))) y (.tup [.str s, .ref pl]) = H8 at f8 e8 hpl8 hy8 hG8 ⊢
  have ht8 := e8 _ _ ht4
  have hT8 : TT H8 (W ++ [(y, s, pl, G)]) := fun w hw => by
   rcases List.mem_append.mp hw with c | c
   ·exact hW.same e8 w c
   ·rw [List.mem_singleton.mp c]
    exact ⟨hy8, hpl8, hG8⟩
  have hn8 : ∀ w ∈ W ++ [(y, s, pl, G)], w.2.2.1 ≠ t := fun w hw => by
   rcases List.mem_append.mp hw with c | c
   ·exact hWn w c
   ·rw [List.mem_singleton.mp c]
    exact nplt
  refine ⟨t, _, _, rfl, rfl, ht8, (by rw [Qch]; omega), ?_⟩
  refine ⟨_, _, _, W ++ [(y, s, pl, G)], rfl, Qbo (E4.trans e8) t0, (fun a o h hne => by rw [Qar hne]; exact e8 _ _ (k4 _ _ h hne)), (by rw [Qab, Qdr]; rfl), hT8.keep ht8 hn8, hn8, by rw [List.length_append, lW]; rfl, ?_⟩
  intro j w hw
  by_cases c : j < W.length
  ·rw [List.getElem?_append_left c] at hw
   exact hWv j w hw
  ·have hjl := (List.getElem?_eq_some_iff.mp hw).1
   rw [List.length_append] at hjl
   have hj : j = W.length := by
    have : j < W.length + 1 := hjl
    omega
   rw [List.getElem?_append_right (by omega), hj, Nat.sub_self] at hw
   have ew : (y, s, pl, G) = w := Option.some.inj hw
   rw [← ew, hj, lW, egi]
   exact hGv
 rintro σ H4 ⟨o4, o5, o6, W, rfl, E4, k4, ht4, hW, _, lW, hWv⟩
 exact ⟨_, rfl, q t W _ E4 ht4 hW (by unfold Vfps; rw [eY]; exact ⟨by omega, hWv⟩) (by omega)⟩
theorem at0s {fs : List Str} {j : Nat} {f : Str} (h : fs[j]? = some f) : atI (fs.map V.str) (0 + (j : Int)) = some (.str f) := by
 rw [Int.zero_add]
 exact Qbr (by rw [List.getElem?_map, h]; rfl)
theorem at0f {F : List Fr} {j : Nat} {z : Fr} (h : F[j]? = some z) : atI (rff F) (0 + (j : Int)) = some (.ref z.1) := by
 rw [Int.zero_add]
 exact Qbr (Qjf h)
theorem Qgb {n : Nat} : ∀ {L : List (Int × Int)}, (∀ x ∈ L, N45.Bt n x.1 ∧ N45.Bt n x.2) → ∀ {a : Int × Int} {m : Nat}, N45.Bt m a.1 → N45.Bt m a.2 → N45.Bt (m + (n + 1) * L.length) (L.foldl N45.adF a).1 ∧ N45.Bt (m + (n + 1) * L.length) (L.foldl N45.adF a).2
 | [], _, a, m, h1, h2 => ⟨h1, h2⟩
 | x :: L, h, a, m, h1, h2 => by
   obtain ⟨b1, b2⟩ := h x List.mem_cons_self
   have c1 : N45.Bt (m + (n + 1)) (N45.adF a x).1 := by
    have p1 := N45.Bt.mul h1 b2
    have p2 := N45.Bt.mul b1 h2
    rw [Nat.add_comm n m] at p2
    exact N45.Bt.add p1 p2
   have c2 : N45.Bt (m + (n + 1)) (N45.adF a x).2 := (N45.Bt.mul h2 b2).mono (by omega)
   have := Qgb (fun y hy => h y (List.mem_cons_of_mem _ hy)) c1 c2
   rw [List.length_cons, Nat.mul_succ, Nat.add_comm ((n + 1) * L.length), ← Nat.add_assoc]
   exact this
theorem Qdx (h : Int) : frc h 1 = (h, 1) := by
 obtain ⟨a, b, _, _, e⟩ := Qb9 (t := h) (b := 1) (Int.le_refl _)
 have e2 : (frc h 1).2 = 1 := by
  have : (1 : Int).natAbs = 1 := rfl
  omega
 rw [e2, Int.mul_one, Int.mul_one] at e
 exact Prod.ext e e2
theorem Qea {t b : Int} (hb : 1 ≤ b) : N49.Ev (frc t b) (t, b) := by
 obtain ⟨a, _, _, _, e⟩ := Qb9 (t := t) hb
 exact ⟨a, hb, e⟩
theorem Qcg : N45.Bt 1 1 := by
 show (1 : Int).natAbs < 2 ^ 1
 decide
def Rb (R : List Rw) : Prop := R.length ≤ 62 ∧ ∀ z ∈ R, 0 ≤ z.2.2.2 ∧ z.2.2.2 ≤ 1000000
theorem Qci {R : List Rw} (h : Rb R) (s f : Str) : N45.Bt 30 (held R s f) ∧ N45.Bt 30 (alls R f) := by
 obtain ⟨hl, hs⟩ := h
 have key : ∀ R : List Rw, (∀ z ∈ R, 0 ≤ z.2.2.2 ∧ z.2.2.2 ≤ 1000000) → 0 ≤ held R s f ∧ held R s f ≤ alls R f ∧ alls R f ≤ 1000000 * R.length := by
  intro R h
  induction R with
  | nil => exact ⟨Int.le_refl _, Int.le_refl _, Int.le_refl _⟩
  | cons z R ih =>
    rw [Qda, Qd2, List.length_cons]
    have := ih fun y hy => h y (List.mem_cons_of_mem _ hy)
    have := h z List.mem_cons_self
    refine ⟨?_, ?_, ?_⟩
    ·split
     ·split <;> omega
     ·omega
    ·split
     ·split <;> omega
     ·split <;> omega
    ·split <;> omega
 have := key R hs
 unfold N45.Bt
 omega
def Fo (F : List Fr) : Prop := ∀ z ∈ F, 1 ≤ z.2.2 ∧ N45.Bt 4100 z.2.1 ∧ N45.Bt 4100 z.2.2
def trs (R : List Rw) (s f : Str) (L : List (Str × Fr)) : List (Int × Int) := (L.filter fun x => !decide (x.1 = s)).map fun x => (x.2.2.1 * held R x.1 f, x.2.2.2)
theorem Qee (R : List Rw) (s f : Str) (A : List (Str × Fr)) (g : Str) (w : Fr) : trs R s f (A ++ [(g, w)]) = if g = s then trs R s f A else trs R s f A ++ [(w.2.1 * held R g f, w.2.2)] := by
 unfold trs
 rw [List.filter_append, List.map_append]
 by_cases c : g = s
 ·rw [if_pos c, List.filter_cons_of_neg (by simpa using c)]
  exact List.append_nil _
 ·rw [if_neg c, List.filter_cons_of_pos (by simpa using c)]
  rfl
def trm (fs : List Str) (R : List Rw) (s f : Str) (F : List Fr) : List (Int × Int) := (held R s f, 1) :: trs R s f (fs.zip F)
def Eq1 (fs : List Str) (R : List Rw) (s : Str) (F : List Fr) (f : Str) (z : Fr) : Prop := (f = s → z.2.1 = z.2.2) ∧ (f ≠ s → z.2.1 * alls R f * (N45.suF (trm fs R s f F)).2 = (N45.suF (trm fs R s f F)).1 * z.2.2)
def Gd (fs : List Str) (R : List Rw) (s : Str) (F : List Fr) : Prop := F.length = fs.length ∧ ∀ (j : Nat) (f : Str) (z : Fr), fs[j]? = some f → F[j]? = some z → Eq1 fs R s F f z
theorem Qkl {fs : List Str} {F : List Fr} {k : Nat} {g : Str} {w : Fr} (hg : fs[k]? = some g) (hw : F[k]? = some w) : (fs.zip F)[k]? = some (g, w) := by
 rw [List.getElem?_zip_eq_some]
 exact ⟨hg, hw⟩
def spLow : Sp := fun vs H Q _ => ∃ (p : Addr) (x y : Int), vs = [.ref p] ∧ H p = some (.tup [.int x, .int y]) ∧ 1 ≤ y ∧ N45.Bt 8000 y ∧ ∀ r, H r = none → Q (.ref r) (upd H r (.tup [.int (frc x y).1, .int (frc x y).2]))
def spTms : Sp := fun vs H Q _ => ∃ (p r : Addr) (a b : Int × Int), vs = [.ref p, .ref r] ∧ H p = some (.tup [.int a.1, .int a.2]) ∧ H r = some (.tup [.int b.1, .int b.2]) ∧ 1 ≤ a.2 ∧ 1 ≤ b.2 ∧ N45.Bt 4100 a.1 ∧ N45.Bt 4100 a.2 ∧ N45.Bt 60 b.1 ∧ N45.Bt 60 b.2 ∧ ∀ t, H t = none → Q (.ref t) (upd H t (.tup [.int (frc (a.1 * b.1) (a.2 * b.2)).1, .int (frc (a.1 * b.1) (a.2 * b.2)).2]))
def spJn : Sp := fun vs H Q _ => ∃ (p r : Addr) (a1 b1 a2 b2 : Int), vs = [.ref p, .ref r] ∧ H p = some (.tup [.int a1, .int b1]) ∧ H r = some (.tup [.int a2, .int b2]) ∧ 1 ≤ b1 ∧ 1 ≤ b2 ∧ N11.gF a1 b1 = 1 ∧ N11.gF a2 b2 = 1 ∧ N45.Bt 50000 a1 ∧ N45.Bt 50000 b1 ∧ N45.Bt 8000 a2 ∧ N45.Bt 8000 b2 ∧
 ∀ t n d, H t = none → 1 ≤ d → d ≤ b1 * b2 → N11.gF n d = 1 → n * (b1 * b2) = (a1 * b2 + a2 * b1) * d → Q (.ref t) (upd H t (.tup [.int n, .int d]))
def spSo : Sp := fun vs H Q _ => ∃ (l : Addr) (G : List Fr), vs = [.ref l] ∧ H l = some (.lst (rff G)) ∧ FF H G ∧ G.length ≤ 9 ∧ (∀ z ∈ G, 1 ≤ z.2.2 ∧ N45.Bt 4200 z.2.1 ∧ N45.Bt 4200 z.2.2) ∧
 ∀ t H' n d, Same H H' → H' t = some (.tup [.int n, .int d]) → N11.gF n d = 1 → N49.Ev (n, d) (N45.suF (G.map (·.2))) → Q (.ref t) H'
def spHb : Sp := fun vs H Q _ => ∃ (fl l pl : Addr) (fs : List Str) (R : List Rw) (s f : Str) (F : List Fr) (gs es : List Str), vs = [.ref fl, .ref l, .str s, .ref pl, .str f] ∧ H fl = some (.lst (fs.map V.str)) ∧ H l = some (.lst (rfw R)) ∧ RX H gs es R ∧ Rb R ∧ fs.length ≤ 6 ∧ H pl = some (.lst (rff F)) ∧ FF H F ∧ Fo F ∧ F.length = fs.length ∧
 ∀ t H' n d, Same H H' → H' t = some (.tup [.int n, .int d]) → N11.gF n d = 1 → N49.Ev (n, d) (N45.suF (trm fs R s f F)) → Q (.ref t) H'
def spPg : Sp := fun vs H Q _ => ∃ (fl l pl : Addr) (fs : List Str) (R : List Rw) (s f : Str) (F : List Fr) (gs es : List Str) (i : Nat) (z : Fr), vs = [.ref fl, .ref l, .str s, .ref pl, .int (0 + (i : Int))] ∧ H fl = some (.lst (fs.map V.str)) ∧ H l = some (.lst (rfw R)) ∧ RX H gs es R ∧ Rb R ∧ fs.length ≤ 6 ∧ H pl = some (.lst (rff F)) ∧ FF H F ∧ Fo F ∧ F.length = fs.length ∧ fs[i]? = some f ∧ F[i]? = some z ∧
 ∀ b H', Same H H' → (b = true ↔ Eq1 fs R s F f z) → Q (.bl b) H'
def spRgt : Sp := fun vs H Q _ => ∃ (fl l pl : Addr) (fs : List Str) (R : List Rw) (s : Str) (F : List Fr) (gs es : List Str), vs = [.ref fl, .ref l, .str s, .ref pl] ∧ H fl = some (.lst (fs.map V.str)) ∧ H l = some (.lst (rfw R)) ∧ RX H gs es R ∧ Rb R ∧ fs.length ≤ 6 ∧ H pl = some (.lst (rff F)) ∧ FF H F ∧ Fo F ∧ F.length ≤ 20 ∧
 ∀ b H', Same H H' → (b = true ↔ Gd fs R s F) → Q (.bl b) H'
theorem Qim {e : Nat → Bool} {a b : Int × Int} (h0 : e 0 = eqV (.int a.1) (.int b.1)) (h1 : e 1 = eqV (.int a.2) (.int b.2)) : ((List.range (min 2 2)).all e && (2 == 2)) = true ↔ a = b := by
 have r : List.range (min 2 2) = [0, 1] := by decide
 rw [r]
 simp only [List.all_cons, List.all_nil, Bool.and_true, h0, h1, Bool.and_eq_true, beq_self_eq_true]
 have k : ∀ x y : Int, eqV (.int x) (.int y) = true ↔ x = y := fun x y => by
  simp [eqV]
 rw [k, k]
 exact ⟨fun h => Prod.ext h.1 h.2, fun h => by rw [h]; exact ⟨rfl, rfl⟩⟩
def e2 (a b : Int × Int) (j : Nat) : Bool := if j = 0 then eqV (.int a.1) (.int b.1) else eqV (.int a.2) (.int b.2)
theorem Qkm {K : Q4} {H : Hp} (a b : Int × Int) : ∀ (j : Nat) (x y : V), [V.int a.1, V.int a.2][j]? = some x → [V.int b.1, V.int b.2][j]? = some y → (flatV x = true ∧ flatV y = true ∧ e2 a b j = eqV x y) ∨ eqLB K H x y (e2 a b j) := by
 intro j x y hx hy
 rcases j with _ | _ | j
 ·cases hx
  cases hy
  exact .inl ⟨rfl, rfl, rfl⟩
 ·cases hx
  cases hy
  exact .inl ⟨rfl, rfl, rfl⟩
 ·cases hx
theorem scbg0 : FnScope ["one"] ["one"] (defScope sbg0) := fsc
theorem okbg0 (D : Def K mg "lowest" sbg0 .none) (cay0 : Cal P w K mg base CX0 true 2 "fraction" ["top", "bottom"] [.int 1] spFrN) : Cal P w K mg base CX0 true 3 "lowest" ["one"] [] spLow := by
 obtain ⟨f, fd, F, hm⟩ := D
 obtain ⟨fay0, fday0, day0, Gay0, may0, kay0, bay0, vay0, bay01⟩ := cay0
 refine ⟨f, fd, _, F.ok scbg0 (fun vs H Q E h => ?_) (fun cdv A outer s H vs Q E hr h => ?_), hm, F.kp, (F.b1), .nil, F.b1⟩
 ·obtain ⟨p, x, y, rfl, hp, hy, hb, q⟩ := h
  rfl
 obtain ⟨p, x, y, rfl, hp, hy, hb, q⟩ := h
 have nd := scbg0.nd
 refine ⟨_, (Qag (Qat (Qah Gay0 (hr.mono (by decide)) rfl may0 kay0 bay0 Paired.nil pass0 (Qaa (Qam Qai (pv 0) Qaf (fun _ _ => rfl)) (Qaa (Qam Qai (pv 0) Qaf (fun _ _ => rfl)) Qad))))), ?_⟩
 have hT := SqT.of (K := K) hp
 exact ⟨_, rfl, .inr (.inl ⟨p, _, 0, _, rfl, rfl, hT, rfl, ⟨_, rfl, .inr (.inl ⟨p, _, 1, _, rfl, rfl, hT, rfl, _, _, rfl, hy, hb, q⟩)⟩⟩)⟩
theorem scba0 : FnScope ["one", "other", "shared", "top", "spare"] ["one", "other"] (defScope sba0) := fsc
theorem okba0 (D : Def K mg "joined" sba0 .none) (cav0 : Cal P w K mg base CX0 cm 1 "divisor" ["one", "other"] [] spG) : Cal P w K mg base CX0 cm 2 "joined" ["one", "other"] [] spJn := by
 obtain ⟨f, fd, F, hm⟩ := D
 obtain ⟨fav0, fdav0, dav0, Gav0, mav0, kav0, bav0, vav0, bav01⟩ := cav0
 refine ⟨f, fd, _, F.ok scba0 (fun vs H Q E h => ?_) (fun cdv A outer s H vs Q E hr h => ?_), hm, F.kp, (F.b2), .nil, F.b2⟩
 ·obtain ⟨p, r, a1, b1, a2, b2, rfl, hp, hr1, k1, k2, c1, c2, l1, l2, l3, l4, q⟩ := h
  rfl
 obtain ⟨p, r, a1, b1, a2, b2, rfl, hp, hr1, k1, k2, c1, c2, l1, l2, l3, l4, q⟩ := h
 have nd := scba0.nd
 refine ⟨_, (Qae (Qak (i := 2) nd rfl (Or.inl rfl) (Qah Gav0 (hr.mono (by decide)) rfl mav0 kav0 bav0 Paired.nil pass0 (Qaa (Qam Qai (pv 0) Qaf (fun _ _ => rfl)) (Qaa (Qam Qai (pv 1) Qaf (fun _ _ => rfl)) Qad))))
  (Qae (Qak (i := 3) nd rfl (Or.inl rfl) (Qan Qbp (Qan Qav (Qam Qai (pv 0) Qaf (fun _ _ => rfl)) (Qan Qb5 (Qam Qai (pv 1) Qaf (fun _ _ => rfl)) (pv 2))) (Qan Qav (Qam Qai (pv 1) Qaf (fun _ _ => rfl)) (Qan Qb5 (Qam Qai (pv 0) Qaf (fun _ _ => rfl)) (pv 2)))))
  (Qae (Qak (i := 4) nd rfl (Or.inl rfl) (Qah Gav0 (hr.mono (by decide)) rfl mav0 kav0 bav0 Paired.nil pass0 (Qaa (pv 3) (Qaa (pv 2) Qad))))
  (Qag (Qat (Qbm (Qaa (Qan Qb5 (pv 3) (pv 4)) (Qaa (Qan Qav (Qan Qb5 (Qam Qai (pv 0) Qaf (fun _ _ => rfl)) (pv 2)) (Qan Qb5 (Qam Qai (pv 1) Qaf (fun _ _ => rfl)) (pv 4))) Qad)))))))), ?_⟩
 have hP := SqT.of (K := K) hp
 have hR := SqT.of (K := K) hr1
 have j := N11.Qj7 k1 k2 c1 c2
 obtain ⟨g0, g1⟩ := Qfz (t := b1) k2
 have gp : 0 < N11.gF b1 b2 := by
  have := N11.Qiu b1 b2
  omega
 have f1 := N49.Qmm (b := b1) (g := N11.gF b1 b2) gp (by omega)
 have f2 := N49.Qmm (b := b2) (g := N11.gF b1 b2) gp (by omega)
 have gb : (N11.gF b1 b2).natAbs < 2 ^ 8000 := Nat.lt_of_le_of_lt g1 l4
 obtain ⟨h0, h1⟩ := Qfz (t := (a1 * Int.fdiv b2 (N11.gF b1 b2) + a2 * Int.fdiv b1 (N11.gF b1 b2))) (b := N11.gF b1 b2) gp
 have hp0 : 0 < N11.gF (a1 * Int.fdiv b2 (N11.gF b1 b2) + a2 * Int.fdiv b1 (N11.gF b1 b2)) (N11.gF b1 b2) := by
  have := N11.Qiu (a1 * Int.fdiv b2 (N11.gF b1 b2) + a2 * Int.fdiv b1 (N11.gF b1 b2)) (N11.gF b1 b2)
  omega
 have f3 := N49.Qmm (b := b2) (g := N11.gF (a1 * Int.fdiv b2 (N11.gF b1 b2) + a2 * Int.fdiv b1 (N11.gF b1 b2)) (N11.gF b1 b2)) hp0 (by omega)
 have hb : (N11.gF (a1 * Int.fdiv b2 (N11.gF b1 b2) + a2 * Int.fdiv b1 (N11.gF b1 b2)) (N11.gF b1 b2)).natAbs < 2 ^ 8000 := Nat.lt_of_le_of_lt h1 gb
 have m1 : N45.Bt 50000 (Int.fdiv b1 (N11.gF b1 b2)) := Nat.lt_of_le_of_lt (by omega) l2
 have m2 : N45.Bt 8000 (Int.fdiv b2 (N11.gF b1 b2)) := Nat.lt_of_le_of_lt (by omega) l4
 have m3 : N45.Bt 8000 (Int.fdiv b2 (N11.gF (a1 * Int.fdiv b2 (N11.gF b1 b2) + a2 * Int.fdiv b1 (N11.gF b1 b2)) (N11.gF b1 b2))) := Nat.lt_of_le_of_lt (by omega) l4
 refine ⟨_, rfl, .inr (.inl ⟨p, _, 1, _, rfl, rfl, hP, rfl, ⟨_, rfl, .inr (.inl ⟨r, _, 1, _, rfl, rfl, hR, rfl, ⟨_, _, rfl, ?_⟩⟩)⟩⟩)⟩
 refine ⟨_, rfl, .inr (.inl ⟨p, _, 0, _, rfl, rfl, hP, rfl, ⟨_, rfl, .inr (.inl ⟨r, _, 1, _, rfl, rfl, hR, rfl, ⟨_, rfl, ⟨_, _, rfl, rfl, logW g0 gb, ⟨_, _, rfl, rfl, mulB l1 m2 (by decide) (by decide), ⟨_, rfl, .inr (.inl ⟨r, _, 0, _, rfl, rfl, hR, rfl, ⟨_, rfl, .inr (.inl ⟨p, _, 1, _, rfl, rfl, hP, rfl, ⟨_, rfl, ⟨_, _, rfl, rfl, logW g0 gb, ⟨_, _, rfl, rfl, mulB l3 m1 (by decide) (by decide), ⟨_, _, rfl, rfl, ?_⟩⟩⟩⟩⟩)⟩⟩)⟩⟩⟩⟩⟩)⟩⟩)⟩
 refine ⟨_, rfl, _, rfl, _, _, rfl, ?_⟩
 exact ⟨_, rfl, ⟨_, rfl, ⟨_, _, rfl, rfl, logW h0 hb, ⟨_, rfl, .inr (.inl ⟨p, _, 1, _, rfl, rfl, hP, rfl, ⟨_, rfl, ⟨_, _, rfl, rfl, logW g0 gb, ⟨_, rfl, .inr (.inl ⟨r, _, 1, _, rfl, rfl, hR, rfl, ⟨_, rfl, ⟨_, _, rfl, rfl, logW h0 hb, ⟨_, _, rfl, rfl, mulB m1 m3 (by decide) (by decide), ⟨(by show 2 ≤ sizeLine; decide), fun t ht => q t _ _ ht j.1 j.2.1 j.2.2.1 j.2.2.2⟩⟩⟩⟩⟩)⟩⟩⟩⟩)⟩⟩⟩⟩
theorem scbu0 : FnScope ["one", "other"] ["one", "other"] (defScope sbu0) := fsc
theorem okbu0 (D : Def K mg "times" sbu0 .none) (cay0 : Cal P w K mg base CX0 true 2 "fraction" ["top", "bottom"] [.int 1] spFrN) : Cal P w K mg base CX0 true 3 "times" ["one", "other"] [] spTms := by
 obtain ⟨f, fd, F, hm⟩ := D
 obtain ⟨fay0, fday0, day0, Gay0, may0, kay0, bay0, vay0, bay01⟩ := cay0
 refine ⟨f, fd, _, F.ok scbu0 (fun vs H Q E h => ?_) (fun cdv A outer s H vs Q E hr h => ?_), hm, F.kp, (F.b2), .nil, F.b2⟩
 ·obtain ⟨p, r, a, b, rfl, hp, hr1, k1, k2, c1, c2, c3, c4, q⟩ := h
  rfl
 obtain ⟨p, r, a, b, rfl, hp, hr1, k1, k2, c1, c2, c3, c4, q⟩ := h
 have nd := scbu0.nd
 refine ⟨_, (Qag (Qat (Qah Gay0 (hr.mono (by decide)) rfl may0 kay0 bay0 Paired.nil pass0 (Qaa (Qan Qav (Qam Qai (pv 0) Qaf (fun _ _ => rfl)) (Qam Qai (pv 1) Qaf (fun _ _ => rfl))) (Qaa (Qan Qav (Qam Qai (pv 0) Qaf (fun _ _ => rfl)) (Qam Qai (pv 1) Qaf (fun _ _ => rfl))) Qad))))), ?_⟩
 have hP := SqT.of (K := K) hp
 have hR := SqT.of (K := K) hr1
 exact ⟨_, rfl, .inr (.inl ⟨p, _, 0, _, rfl, rfl, hP, rfl, ⟨_, rfl, .inr (.inl ⟨r, _, 0, _, rfl, rfl, hR, rfl, ⟨_, _, rfl, rfl, mulB c1 c3 (by decide) (by decide), ⟨_, rfl, .inr (.inl ⟨p, _, 1, _, rfl, rfl, hP, rfl, ⟨_, rfl, .inr (.inl ⟨r, _, 1, _, rfl, rfl, hR, rfl, ⟨_, _, rfl, rfl, mulB c2 c4 (by decide) (by decide), _, _, rfl, Int.mul_pos (by omega) (by omega), (N45.Bt.mul c2 c4).mono (by decide), q⟩⟩)⟩⟩)⟩⟩⟩)⟩⟩)⟩
theorem scbt0 : FnScope ["some", "total", "one"] ["some"] (defScope sbt0) := fsc
theorem okbt0 (D : Def K mg "sum_of" sbt0 .none) (cay0 : Cal P w K mg base CX0 true 2 "fraction" ["top", "bottom"] [.int 1] spFrN) (cba0 : Cal P w K mg base CX0 true 2 "joined" ["one", "other"] [] spJn) (cbg0 : Cal P w K mg base CX0 true 3 "lowest" ["one"] [] spLow) : Cal P w K mg base CX0 true 4 "sum_of" ["some"] [] spSo := by
 obtain ⟨f, fd, F, hm⟩ := D
 obtain ⟨fay0, fday0, day0, Gay0, may0, kay0, bay0, vay0, bay01⟩ := cay0
 obtain ⟨fba0, fdba0, dba0, Gba0, mba0, kba0, bba0, vba0, bba01⟩ := cba0
 obtain ⟨fbg0, fdbg0, dbg0, Gbg0, mbg0, kbg0, bbg0, vbg0, bbg01⟩ := cbg0
 refine ⟨f, fd, _, F.ok scbt0 (fun vs H Q E h => ?_) (fun cdv A outer s H vs Q E hr h => ?_), hm, F.kp, (F.b1), .nil, F.b1⟩
 ·obtain ⟨l, G, rfl, hl, hG, l9, hb, q⟩ := h
  rfl
 obtain ⟨l, G, rfl, hl, hG, l9, hb, q⟩ := h
 have nd := scbt0.nd
 refine ⟨_, (Qae (Qak (i := 1) nd rfl (Or.inl rfl) (Qah Gay0 (hr.mono (by decide)) rfl may0 kay0 bay01 vay0 pass0 (Qaa Qaf Qad)))
  (Qae (Qbe PassesOwn.never rfl (Qax (pv 0)) (Qau (i := 2) nd rfl (Or.inl rfl)) (Qag (Qak (i := 1) nd rfl (Or.inl rfl) (Qah Gba0 (hr.mono (by decide)) rfl mba0 kba0 bba0 Paired.nil pass0 (Qaa (pv 1) (Qaa (Qah Gbg0 (hr.mono (by decide)) rfl mbg0 kbg0 bbg0 Paired.nil pass0 (Qaa (pv 2) Qad)) Qad))))))
  (Qag (Qat (pv 1))))), ?_⟩
 have hline : 10 ^ 6 ≤ sizeLine := by decide
 refine ⟨_, _, rfl, by decide, Qcg.mono (by decide), fun t0 ht0 => ?_⟩
 rw [Qdx]
 have e0 := Qac (o := .tup [.int 0, .int 1]) ht0
 refine ⟨_, rfl, l, rfl, ⟨_, SqL.of (e0 _ _ hl)⟩, ?_⟩
 refine Qbw (xs := rff G) (fun i σ H' => ∃ (t : Addr) (n d : Int) (o : Option V), σ = [some (.ref l), some (.ref t), o] ∧ Same H H' ∧ H' t = some (.tup [.int n, .int d]) ∧ N11.gF n d = 1 ∧ N49.Ev (n, d) (N45.suF ((G.take i).map (·.2))) ∧ d ≤ (N45.suF ((G.take i).map (·.2))).2) ⟨t0, 0, 1, _, rfl, e0, Qab, by decide, ⟨Int.le_refl 1, Int.le_refl 1, rfl⟩, Int.le_refl 1⟩ ?_ ?_ ?_
 ·rintro i σ H' _ ⟨t, n, d, o, rfl, e, _⟩
  exact SqL.of (e _ _ hl)
 ·rintro i x σ H' hx ⟨t, n, d, o, rfl, e, ht, co, ev, le⟩
  obtain ⟨z, hz, rfl⟩ := Qd5 hx
  have zm := List.mem_of_getElem? hz
  obtain ⟨z1, z2, z3⟩ := hb z zm
  obtain ⟨b1, b2, b3, b4, b5⟩ := Qb9 (t := z.2.1) z1
  obtain ⟨v1, v2, v3⟩ := ev
  have tl : ((G.take i).map (·.2)).length ≤ 9 := by
   rw [List.length_map, List.length_take]
   omega
  obtain ⟨s1, s2⟩ := Qgb (n := 4200) (L := (G.take i).map (·.2)) (fun x hx => by
   obtain ⟨w, hw, rfl⟩ := List.mem_map.mp hx
   exact (hb w (List.mem_of_mem_take hw)).2) (a := (0, 1)) (m := 1) (show (0 : Int).natAbs < 2 ^ 1 by decide) (show (1 : Int).natAbs < 2 ^ 1 by decide)
  have s1 : N45.Bt 50000 (N45.suF ((G.take i).map (·.2))).1 := s1.mono (by omega)
  have s2 : N45.Bt 50000 (N45.suF ((G.take i).map (·.2))).2 := s2.mono (by omega)
  have dn := N49.abs_le co v3 v2
  have v1' : 1 ≤ d := v1
  refine ⟨_, rfl, _, rfl, z.1, z.2.1, z.2.2, rfl, e _ _ (hG z zm), z1, z3.mono (by decide), fun t1 ht1 => ?_⟩
  have f1 := Qac (o := .tup [.int (frc z.2.1 z.2.2).1, .int (frc z.2.1 z.2.2).2]) ht1
  refine ⟨t, t1, n, d, _, _, rfl, f1 _ _ ht, Qab, v1, b1, co, b4, Nat.lt_of_le_of_lt dn s1, Nat.lt_of_le_of_lt (by have : d ≤ (N45.suF ((G.take i).map (·.2))).2 := le; omega) s2, Nat.lt_of_le_of_lt b3 (z2.mono (by decide)), Nat.lt_of_le_of_lt b2 (z3.mono (by decide)), fun t2 n2 d2 ht2 x1 x2 x3 x4 => ?_⟩
  have en : N45.suF ((G.take (i + 1)).map (·.2)) = N45.adF (N45.suF ((G.take i).map (·.2))) z.2 := by
   rw [Qaw hz, List.map_append]
   exact N45.Qeg _ _
  have ea := N49.Ev.add (a := (n, d)) ⟨v1, v2, v3⟩ (Qea (t := z.2.1) z1)
  have ea2 : N49.Ev (n2, d2) (N45.adF (n, d) (frc z.2.1 z.2.2)) := ⟨x1, ea.1, x4⟩
  refine ⟨t2, n2, d2, _, rfl, (e.trans f1).trans (Qac ht2), Qab, x3, by rw [en]; exact ea2.trans ea, ?_⟩
  rw [en]
  show d2 ≤ (N45.suF ((G.take i).map (·.2))).2 * z.2.2
  refine Int.le_trans x2 (Int.mul_le_mul le ?_ (by omega) (by omega))
  omega
 rintro σ H' ⟨t, n, d, o, rfl, e, ht, co, ev, le⟩
 rw [Qbd, List.take_length] at ev
 exact ⟨_, rfl, q t H' n d e ht co ev⟩
theorem scaz0 : FnScope ["firms", "rows", "holder", "parts", "firm", "some", "other", "part"] ["firms", "rows", "holder", "parts", "firm"] (defScope saz0) := fsc
theorem okaz0 (D : Def K mg "held_by" saz0 .none) (cay0 : Cal P w K mg base CX0 true 2 "fraction" ["top", "bottom"] [.int 1] spFrN) (cbp0 : Cal P w K mg base CX0 true 1 "shares_of" ["rows", "holder", "firm"] [] spHeld) (cbu0 : Cal P w K mg base CX0 true 3 "times" ["one", "other"] [] spTms) (cbt0 : Cal P w K mg base CX0 true 4 "sum_of" ["some"] [] spSo) (z_zip : mg "zip" = none) : Cal P w K mg base CX0 true 5 "held_by" ["firms", "rows", "holder", "parts", "firm"] [] spHb := by
 obtain ⟨f, fd, F, hm⟩ := D
 obtain ⟨fay0, fday0, day0, Gay0, may0, kay0, bay0, vay0, bay01⟩ := cay0
 obtain ⟨fbp0, fdbp0, dbp0, Gbp0, mbp0, kbp0, bbp0, vbp0, bbp01⟩ := cbp0
 obtain ⟨fbu0, fdbu0, dbu0, Gbu0, mbu0, kbu0, bbu0, vbu0, bbu01⟩ := cbu0
 obtain ⟨fbt0, fdbt0, dbt0, Gbt0, mbt0, kbt0, bbt0, vbt0, bbt01⟩ := cbt0
 refine ⟨f, fd, _, F.ok scaz0 (fun vs H Q E h => ?_) (fun cdv A outer s H vs Q E hr h => ?_), hm, F.kp, (F.b5), .nil, F.b5⟩
 ·obtain ⟨fl, l, pl, fs, R, s, f, F, gs, es, rfl, hfl, hl, hR, hB, h6, hpl, hF, hO, hFl, q⟩ := h
  rfl
 obtain ⟨fl, l, pl, fs, R, s, f, F, gs, es, rfl, hfl, hl, hR, hB, h6, hpl, hF, hO, hFl, q⟩ := h
 have nd := scaz0.nd
 refine ⟨_, (Qae (Qak (i := 5) nd rfl (Or.inl rfl) (Qba (Qaa (Qah Gay0 (hr.mono (by decide)) rfl may0 kay0 bay01 vay0 pass0 (Qaa (Qah Gbp0 (hr.mono (by decide)) rfl mbp0 kbp0 bbp0 Paired.nil pass0 (Qaa (pv 1) (Qaa (pv 2) (Qaa (pv 4) Qad)))) Qad)) Qad)))
  (Qae (Qbe PassesOwn.never rfl (Qhy rfl z_zip (Qaa (pv 0) (Qaa (pv 3) Qad))) (Qc6 rfl (Qa2 (Qau (i := 6) nd rfl (Or.inl rfl)) (Qa2 (Qau (i := 7) nd rfl (Or.inl rfl)) Qcb))) (Qag (Qbq (Qap Qde (pv 6) (pv 2) (nomark _)) (Qag (Qby (Qc7 PySem.F.plainAttrs_list PySem.F.slot_list_append PySem.F.type_list_append Qbs (pv 5) (Qaa (Qah Gbu0 (hr.mono (by decide)) rfl mbu0 kbu0 bbu0 Paired.nil pass0 (Qaa (pv 7) (Qaa (Qah Gay0 (hr.mono (by decide)) rfl may0 kay0 bay01 vay0 pass0 (Qaa (Qah Gbp0 (hr.mono (by decide)) rfl mbp0 kbp0 bbp0 Paired.nil pass0 (Qaa (pv 1) (Qaa (pv 6) (Qaa (pv 4) Qad)))) Qad)) Qad))) Qad)))) Qay)))
  (Qag (Qat (Qah Gbt0 (hr.mono (by decide)) rfl mbt0 kbt0 bbt0 Paired.nil pass0 (Qaa (pv 5) Qad)))))), ?_⟩
 have hline : 10 ^ 6 ≤ sizeLine := by decide
 have lfm : (fs.map V.str).length = fs.length := List.length_map ..
 have hlen := hB.1
 refine ⟨_, rfl, _, rfl, _, rfl, l, R, s, f, gs, es, rfl, hl, hR, by omega, fun H1 e1 => ⟨_, _, rfl, by decide, Qcg.mono (by decide), fun tp htp => ⟨(by show 1 ≤ sizeLine; decide), fun sp hsp => ?_⟩⟩⟩
 rw [Qdx] at hsp ⊢
 have f2 := Qac (o := .tup [.int (held R s f), .int 1]) htp
 have f3 := Qac (o := .lst [.ref tp]) hsp
 have e3 := e1.trans (f2.trans f3)
 have sp0 := (e1.trans f2).free hsp
 have htp3 := f3 _ _ (Qab (H := H1) (a := tp) (o := .tup [.int (held R s f), .int 1]))
 have hsp3 : upd (upd H1 tp (.tup [.int (held R s f), .int 1])) sp (.lst [.ref tp]) sp = some (.lst [.ref tp]) := Qab
 generalize upd (upd H1 tp (.tup [.int (held R s f), .int 1])) sp (.lst [.ref tp]) = H3 at f3 e3 htp3 hsp3 ⊢
 obtain ⟨hb1, _⟩ := Qci hB s f
 refine ⟨_, rfl, _, rfl, fl, pl, rfl, ⟨_, SqL.of (e3 _ _ hfl)⟩, ⟨_, SqL.of (e3 _ _ hpl)⟩, ?_⟩
 refine Qml (xs := fs.map V.str) (ys := rff F) (fun k σ H' => ∃ (o6 o7 : Option V) (G : List Fr), σ = [some (.ref fl), some (.ref l), some (.str s), some (.ref pl), some (.str f), some (.ref sp), o6, o7] ∧ Same H H' ∧ H' sp = some (.lst (rff G)) ∧ FF H' G ∧ G.length ≤ k + 1 ∧ (∀ z ∈ G, 1 ≤ z.2.2 ∧ N45.Bt 4200 z.2.1 ∧ N45.Bt 4200 z.2.2) ∧ N49.Ev (N45.suF (G.map (·.2))) (N45.suF ((held R s f, 1) :: trs R s f ((fs.zip F).take k)))) ⟨_, _, [(tp, held R s f, 1)], rfl, e3, hsp3, ?_, Nat.le_refl _, ?_, ?_⟩ ?_ ?_ ?_
 ·intro z hz
  rw [List.mem_singleton.mp hz]
  exact htp3
 ·intro z hz
  rw [List.mem_singleton.mp hz]
  exact ⟨Int.le_refl 1, hb1.mono (by decide), Qcg.mono (by decide)⟩
 ·exact ⟨Int.le_refl 1, Int.le_refl 1, rfl⟩
 ·rintro i σ H4 hi ⟨o6, o7, G, rfl, e4, _⟩
  exact ⟨SqL.of (e4 _ _ hfl), SqL.of (e4 _ _ hpl)⟩
 ·rintro i x y σ H4 tt hx hy ⟨o6, o7, G, rfl, e4, hsp4, hG, lG, bG, ev⟩ htt
  obtain ⟨g, hg, rfl⟩ := Qbu hx
  obtain ⟨w, hw, rfl⟩ := Qd5 hy
  have hi6 : i < fs.length := (List.getElem?_eq_some_iff.mp hg).1
  have wm := List.mem_of_getElem? hw
  obtain ⟨w1, w2, w3⟩ := hO w wm
  have f5 := Qac (o := .tup [.str g, .ref w.1]) htt
  have ez := Qaw (Qkl hg hw)
  refine ⟨tt, _, rfl, SqT.of Qab, rfl, _, _, rfl, _, _, rfl, rfl, ?_⟩
  generalize upd H4 tt (.tup [.str g, .ref w.1]) = H5 at f5 ⊢
  have e5 := e4.trans f5
  have hsp5 := f5 _ _ hsp4
  have hG5 := hG.same f5
  refine ⟨_, rfl, _, rfl, rfl, _, rfl, ?_⟩
  refine ndec2 (fun h2 => ?_) (fun h2 => ?_)
  ·have hgs : g ≠ s := fun w => h2 (congrArg V.str w)
   obtain ⟨hc1, _⟩ := Qci hB g f
   refine ⟨_, rfl, .inl ⟨rfl, _, SqL.of hsp5⟩, _, rfl, _, rfl, _, rfl, _, rfl, l, R, g, f, gs, es, rfl, e5 _ _ hl, hR.same e5, by omega, fun H6 e6 => ⟨_, _, rfl, by decide, Qcg.mono (by decide), fun tq htq => ?_⟩⟩
   rw [Qdx]
   have f7 := Qac (o := .tup [.int (held R g f), .int 1]) htq
   have e57 := e5.trans (e6.trans f7)
   refine ⟨w.1, tq, w.2, (held R g f, 1), rfl, e57 _ _ (hF w wm), Qab, w1, Int.le_refl 1, w2, w3, hc1.mono (by decide), Qcg.mono (by decide), fun tr htr => ?_⟩
   have f8 := Qac (o := .tup [.int (frc (w.2.1 * held R g f) (w.2.2 * 1)).1, .int (frc (w.2.1 * held R g f) (w.2.2 * 1)).2]) htr
   have e58 := e6.trans (f7.trans f8)
   have hsp8 := e58 _ _ hsp5
   refine ⟨sp, _, _, rfl, rfl, hsp8, (by rw [Qbd]; omega), ?_⟩
   have hq := Qb9 (t := w.2.1 * held R g f) (b := w.2.2 * 1) (by omega)
   have bq : N45.Bt 4200 (w.2.1 * held R g f) := (N45.Bt.mul w2 hc1).mono (by decide)
   have ev1 := Qea (t := w.2.1 * held R g f) (b := w.2.2 * 1) (by omega)
   rw [Int.mul_one] at hq ev1
   refine ⟨_, _, G ++ [(tr, frc (w.2.1 * held R g f) w.2.2)], rfl, Qbo (e5.trans e58) sp0, (by rw [Qab, Qb6]; rfl), fun z hz => ?_, (by rw [List.length_append]; show G.length + 1 ≤ _; omega), fun z hz => ?_, ?_⟩
   ·rcases List.mem_append.mp hz with c | c
    ·exact Qbn (e58 _ _ (hG5 z c)) hsp8
    ·rw [List.mem_singleton.mp c]
     have := Qbn (ys := rff G ++ [V.ref tr]) (Qab (H := upd H6 tq (.tup [.int (held R g f), .int 1])) (a := tr) (o := .tup [.int (frc (w.2.1 * held R g f) (w.2.2 * 1)).1, .int (frc (w.2.1 * held R g f) (w.2.2 * 1)).2])) hsp8
     rw [Int.mul_one] at this ⊢
     exact this
   ·rcases List.mem_append.mp hz with c | c
    ·exact bG z c
    ·rw [List.mem_singleton.mp c]
     exact ⟨hq.1, Nat.lt_of_le_of_lt hq.2.2.1 bq, Nat.lt_of_le_of_lt hq.2.1 (w3.mono (by decide))⟩
   ·rw [List.map_append, ez, Qee, if_neg hgs, ← List.cons_append]
    show N49.Ev (N45.suF (_ ++ [_])) _
    rw [N45.Qeg, N45.Qeg]
    exact ev.add ev1
  ·have hgs : g = s := V.str.inj h2
   refine ⟨_, _, G, rfl, e5, hsp5, hG5, by omega, bG, ?_⟩
   rw [ez, Qee, if_pos hgs]
   exact ev
 rintro σ H4 ⟨o6, o7, G, rfl, e4, hsp4, hG, lG, bG, ev⟩
 have lm : min (fs.map V.str).length (rff F).length = fs.length := by
  rw [lfm, Qbd, hFl]
  omega
 rw [lm] at lG ev
 rw [List.take_of_length_le (by rw [List.length_zip]; omega)] at ev
 exact ⟨_, rfl, sp, G, rfl, hsp4, hG, by omega, bG, fun t H' n d e ht co v => q t H' n d (e4.trans e) ht co (v.trans ev)⟩
theorem scbm0 : FnScope ["firms", "rows", "holder", "parts", "place", "firm"] ["firms", "rows", "holder", "parts", "place"] (defScope sbm0) := fsc
theorem okbm0 (D : Def K mg "part_good" sbm0 .none) (cbg0 : Cal P w K mg base CX0 true 3 "lowest" ["one"] [] spLow) (cay0 : Cal P w K mg base CX0 true 2 "fraction" ["top", "bottom"] [.int 1] spFrN) (cbu0 : Cal P w K mg base CX0 true 3 "times" ["one", "other"] [] spTms) (car0 : Cal P w K mg base CX0 true 1 "all_shares" ["rows", "firm"] [] spAll) (caz0 : Cal P w K mg base CX0 true 5 "held_by" ["firms", "rows", "holder", "parts", "firm"] [] spHb) : Cal P w K mg base CX0 true 6 "part_good" ["firms", "rows", "holder", "parts", "place"] [] spPg := by
 obtain ⟨f, fd, F, hm⟩ := D
 obtain ⟨fbg0, fdbg0, dbg0, Gbg0, mbg0, kbg0, bbg0, vbg0, bbg01⟩ := cbg0
 obtain ⟨fay0, fday0, day0, Gay0, may0, kay0, bay0, vay0, bay01⟩ := cay0
 obtain ⟨fbu0, fdbu0, dbu0, Gbu0, mbu0, kbu0, bbu0, vbu0, bbu01⟩ := cbu0
 obtain ⟨far0, fdar0, dar0, Gar0, mar0, kar0, bar0, var0, bar01⟩ := car0
 obtain ⟨faz0, fdaz0, daz0, Gaz0, maz0, kaz0, baz0, vaz0, baz01⟩ := caz0
 refine ⟨f, fd, _, F.ok scbm0 (fun vs H Q E h => ?_) (fun cdv A outer s H vs Q E hr h => ?_), hm, F.kp, (F.b5), .nil, F.b5⟩
 ·obtain ⟨fl, l, pl, fs, R, s, f, F, gs, es, i, z, rfl, hfl, hl, hR, hB, h6, hpl, hF, hO, hFl, hf, hz, q⟩ := h
  rfl
 obtain ⟨fl, l, pl, fs, R, s, f, F, gs, es, i, z, rfl, hfl, hl, hR, hB, h6, hpl, hF, hO, hFl, hf, hz, q⟩ := h
 have nd := scbm0.nd
 refine ⟨_, (Qae (Qak (i := 5) nd rfl (Or.inl rfl) (Qam Qai (pv 0) (pv 4) (fun _ _ => rfl)))
  (Qae (Qbq (Qap Qb7 (pv 5) (pv 2) (nomark _)) (Qag (Qat (Qcl (Qh0 hr) (Qah Gbg0 (hr.mono (by decide)) rfl mbg0 kbg0 bbg0 Paired.nil pass0 (Qaa (Qam Qai (pv 3) (pv 4) (fun _ _ => rfl)) Qad)) (Qah Gay0 (hr.mono (by decide)) rfl may0 kay0 bay01 vay0 pass0 (Qaa Qaf Qad)) (nomark _)))) Qay)
  (Qag (Qat (Qcl (Qh0 hr) (Qah Gbu0 (hr.mono (by decide)) rfl mbu0 kbu0 bbu0 Paired.nil pass0 (Qaa (Qam Qai (pv 3) (pv 4) (fun _ _ => rfl)) (Qaa (Qah Gay0 (hr.mono (by decide)) rfl may0 kay0 bay01 vay0 pass0 (Qaa (Qah Gar0 (hr.mono (by decide)) rfl mar0 kar0 bar0 Paired.nil pass0 (Qaa (pv 1) (Qaa (pv 5) Qad))) Qad)) Qad))) (Qah Gaz0 (hr.mono (by decide)) rfl maz0 kaz0 baz0 Paired.nil pass0 (Qaa (pv 0) (Qaa (pv 1) (Qaa (pv 2) (Qaa (pv 3) (Qaa (pv 5) Qad)))))) (nomark _)))))), ?_⟩
 have hline : 10 ^ 6 ≤ sizeLine := by decide
 have hlen := hB.1
 have zm := List.mem_of_getElem? hz
 obtain ⟨z1, z2, z3⟩ := hO z zm
 have hff := at0s hf
 have hzz := at0f hz
 obtain ⟨hb1, hb2⟩ := Qci hB s f
 refine ⟨_, rfl, _, rfl, .inl ⟨fl, _, _, _, rfl, rfl, SqL.of hfl, hff, ?_⟩⟩
 refine ⟨_, rfl, _, rfl, rfl, _, rfl, ?_⟩
 refine dec2 (fun h => ?_) (fun h => ?_)
 ·have hs : f = s := V.str.inj h
  refine ⟨_, rfl, _, rfl, .inl ⟨pl, _, _, _, rfl, rfl, SqL.of hpl, hzz, z.1, z.2.1, z.2.2, rfl, hF z zm, z1, z3.mono (by decide), fun t1 ht1 => ?_⟩⟩
  refine ⟨_, _, rfl, by decide, Qcg.mono (by decide), fun t2 ht2 => ?_⟩
  rw [Qdx]
  have f1 := Qac (o := .tup [.int (frc z.2.1 z.2.2).1, .int (frc z.2.1 z.2.2).2]) ht1
  have f2 := Qac (o := .tup [.int 1, .int 1]) ht2
  refine ⟨t1, t2, _, _, e2 (frc z.2.1 z.2.2) (1, 1), rfl, rfl, SqT.of (f2 _ _ Qab), SqT.of Qab, Qkm (frc z.2.1 z.2.2) (1, 1), q _ _ (f1.trans f2) ?_⟩
  refine (Qim (a := frc z.2.1 z.2.2) (b := (1, 1)) rfl rfl).trans ⟨fun e => ⟨fun _ => ?_, fun w => absurd hs w⟩, fun e => N49.Qkv ⟨(Qea z1).1, by decide, ?_⟩ (Qb9 z1).2.2.2.1 (by decide)⟩
  ·have := (Qea (t := z.2.1) z1).2.2
   rw [e] at this
   show z.2.1 = z.2.2
   have t : (1 : Int) * z.2.2 = z.2.1 * 1 := this
   omega
  ·have := (Qea (t := z.2.1) z1).2.2
   rw [e.1 hs] at this ⊢
   have t : (frc z.2.2 z.2.2).1 * z.2.2 = z.2.2 * (frc z.2.2 z.2.2).2 := this
   rw [Int.mul_comm z.2.2] at t
   show (frc z.2.2 z.2.2).1 * 1 = 1 * (frc z.2.2 z.2.2).2
   rw [Int.mul_one, Int.one_mul]
   exact Int.eq_of_mul_eq_mul_right (by omega) t
 have hs : f ≠ s := fun w => h (congrArg V.str w)
 refine ⟨_, rfl, _, rfl, .inl ⟨pl, _, _, _, rfl, rfl, SqL.of hpl, hzz, _, rfl, _, rfl, l, R, f, gs, es, rfl, hl, hR, by omega, fun H1 e1 => ⟨_, _, rfl, by decide, Qcg.mono (by decide), fun t1 ht1 => ?_⟩⟩⟩
 rw [Qdx]
 have f1 := Qac (o := .tup [.int (alls R f), .int 1]) ht1
 have eb := e1.trans f1
 refine ⟨z.1, t1, z.2, (alls R f, 1), rfl, eb _ _ (hF z zm), Qab, z1, Int.le_refl 1, z2, z3, hb2.mono (by decide), Qcg.mono (by decide), fun t2 ht2 => ?_⟩
 have f2 := Qac (o := .tup [.int (frc (z.2.1 * alls R f) (z.2.2 * 1)).1, .int (frc (z.2.1 * alls R f) (z.2.2 * 1)).2]) ht2
 have e3 := eb.trans f2
 have ht2v : upd (upd H1 t1 (.tup [.int (alls R f), .int 1])) t2 (.tup [.int (frc (z.2.1 * alls R f) (z.2.2 * 1)).1, .int (frc (z.2.1 * alls R f) (z.2.2 * 1)).2]) t2 = some (.tup [.int (frc (z.2.1 * alls R f) (z.2.2 * 1)).1, .int (frc (z.2.1 * alls R f) (z.2.2 * 1)).2]) := Qab
 generalize upd (upd H1 t1 (.tup [.int (alls R f), .int 1])) t2 (.tup [.int (frc (z.2.1 * alls R f) (z.2.2 * 1)).1, .int (frc (z.2.1 * alls R f) (z.2.2 * 1)).2]) = H3 at f2 e3 ht2v ⊢
 refine ⟨_, rfl, _, rfl, _, rfl, _, rfl, _, rfl, fl, l, pl, fs, R, s, f, F, gs, es, rfl, e3 _ _ hfl, e3 _ _ hl, hR.same e3, hB, h6, e3 _ _ hpl, hF.same e3, hO, hFl, fun t3 H4 n d e4 ht3 co ev => ?_⟩
 rw [Int.mul_one] at ht2v
 obtain ⟨v1, v2, v3⟩ := ev
 have fe := Qea (t := z.2.1 * alls R f) z1
 refine ⟨t2, t3, _, _, e2 (frc (z.2.1 * alls R f) z.2.2) (n, d), rfl, rfl, SqT.of (e4 _ _ ht2v), SqT.of ht3, Qkm (frc (z.2.1 * alls R f) z.2.2) (n, d), q _ _ (e3.trans e4) ?_⟩
 refine (Qim (a := frc (z.2.1 * alls R f) z.2.2) (b := (n, d)) rfl rfl).trans ⟨fun e => ⟨fun w => absurd w hs, fun _ => ?_⟩, fun e => N49.Qkv ?_ (Qb9 z1).2.2.2.1 co⟩
 ·rw [e] at fe
  have := N49.Ev.trans (a := (z.2.1 * alls R f, z.2.2)) ⟨fe.2.1, fe.1, fe.2.2.symm⟩ ⟨v1, v2, v3⟩
  exact this.2.2
 ·refine fe.trans ?_
  exact N49.Ev.trans (b := N45.suF (trm fs R s f F)) ⟨z1, v2, e.2 hs⟩ ⟨v2, v1, v3.symm⟩
theorem scbn0 : FnScope ["firms", "rows", "holder", "parts"] ["firms", "rows", "holder", "parts"] (defScope sbn0) := fsc
theorem okbn0 (D : Def K mg "parts_good" sbn0 .none) (cbm0 : Cal P w K mg base CX0 true 6 "part_good" ["firms", "rows", "holder", "parts", "place"] [] spPg) (z_len : mg "len" = none) (z_any : mg "any" = none) (z_all : mg "all" = none) (z_range : mg "range" = none) : Cal P w K mg base CX0 true 7 "parts_good" ["firms", "rows", "holder", "parts"] [] spRgt := by
 obtain ⟨f, fd, F, hm⟩ := D
 obtain ⟨fbm0, fdbm0, dbm0, Gbm0, mbm0, kbm0, bbm0, vbm0, bbm01⟩ := cbm0
 refine ⟨f, fd, _, F.ok scbn0 (fun vs H Q E h => ?_) (fun cdv A outer s H vs Q E hr h => ?_), hm, F.kp, (F.b4), .nil, F.b4⟩
 ·obtain ⟨fl, l, pl, fs, R, s, F, gs, es, rfl, hfl, hl, hR, hB, h6, hpl, hF, hO, h9, q⟩ := h
  rfl
 obtain ⟨fl, l, pl, fs, R, s, F, gs, es, rfl, hfl, hl, hR, hB, h6, hpl, hF, hO, h9, q⟩ := h
 have nd := scbn0.nd
 refine ⟨_, (Qae (Qbq (PW.pt (Qfq (Qap Qde (Qao Qaj rfl z_len Qa1 (Qaa (pv 3) Qad)) (Qao Qaj rfl z_len Qa1 (Qaa (pv 0) Qad)) (nomark _)) (Qe1 (Qdh (Qao (Qg7 hr) rfl z_any Qlh (Qaa (Qc2 [] rfl (LcOk.plain (by decide+kernel) (by decide+kernel) rfl (by decide+kernel) rfl) (Qax (pv 3)) (fun C s2 H2 fp xe => (Qcl Qb7 (Qam Qa0 (pv 0) Qaf (fun _ _ => rfl)) Qaf (nomark _)))) Qad)))))) (Qag (Qat Qc3)) Qay)
  (Qag (Qat (Qao (Qkj hr) rfl z_all bt_all (Qaa (Qc2 [0, 1, 2, 3] rfl (LcOk.free ["rows", "parts", "holder", "firms"] rfl rfl (List.forall_mem_cons.mpr ⟨rfl, (List.forall_mem_cons.mpr ⟨rfl, (List.forall_mem_cons.mpr ⟨rfl, (List.forall_mem_cons.mpr ⟨rfl, (fun _ h => nomatch h)⟩)⟩)⟩)⟩) (by decide+kernel) rfl (by decide+kernel) rfl (by decide+kernel) (show (["place", "firms", "rows", "holder", "parts"] : List Str).Nodup from by decide+kernel) (List.forall_mem_cons.mpr ⟨⟨_, rfl, rfl, rfl, by decide+kernel⟩, (List.forall_mem_cons.mpr ⟨⟨_, rfl, rfl, rfl, by decide+kernel⟩, (List.forall_mem_cons.mpr ⟨⟨_, rfl, rfl, rfl, by decide+kernel⟩, (List.forall_mem_cons.mpr ⟨⟨_, rfl, rfl, rfl, by decide+kernel⟩, (fun _ h => nomatch h)⟩)⟩)⟩)⟩)) (Qaz rfl z_range (Qaa (Qao Qaj rfl z_len Qa1 (Qaa (pv 0) Qad)) Qad)) (fun C s2 H2 fp xe => (Qah Gbm0 (hr.mono (by decide)) rfl mbm0 kbm0 bbm0 Paired.nil pass0 (Qaa (pv 1) (Qaa (pv 2) (Qaa (pv 3) (Qaa (pv 4) (Qaa (pv 0) Qad)))))))) Qad))))), ?_⟩
 have hline : 10 ^ 6 ≤ sizeLine := by decide
 have lfm : (fs.map V.str).length = fs.length := List.length_map ..
 refine ⟨_, rfl, pl, _, rfl, .inl (SqL.of hpl), _, rfl, fl, _, rfl, .inl (SqL.of hfl), rfl, _, rfl, ?_⟩
 refine ndec2 (fun h => ?_) (fun h => ?_)
 ·refine q false _ (Qas _) ⟨(fun w => nomatch w), fun w => absurd ?_ h⟩
  rw [Qbd, lfm, w.1]
 have hFl : F.length = fs.length := by
  have := V.int.inj h
  rw [Qbd, lfm] at this
  omega
 refine ⟨_, rfl, pl, rfl, ⟨_, SqL.of hpl⟩, ?_⟩
 refine Qbz (xs := rff F) (fun j ys H5 => ys = ((List.range j).map fun _ => false).map V.bl ∧ H5 = H) ⟨rfl, rfl⟩ (by rw [Qbd]; omega) ?_ ?_ ?_
 ·rintro j ys H5 hj ⟨rfl, rfl⟩
  refine ⟨SqL.of hpl, ?_⟩
  rw [List.length_map, List.length_map, List.length_range]
 ·rintro j x ys H5 hx ⟨rfl, rfl⟩
  obtain ⟨z, hz, rfl⟩ := Qd5 hx
  have zm := List.mem_of_getElem? hz
  have := (hO z zm).1
  refine ⟨_, rfl, .inr (.inl ⟨z.1, _, 1, _, rfl, rfl, SqT.of (hF z zm), rfl, rfl, ?_⟩)⟩
  rw [decide_eq_false (fun w => by have := V.int.inj w; omega)]
  refine ⟨?_, rfl⟩
  rw [List.range_succ, List.map_append, List.map_append]
  rfl
 rintro ys H5 ⟨rfl, rfl⟩ k1 hk1
 have f1 := Qac (o := .lst (((List.range (rff F).length).map fun _ => false).map V.bl)) hk1
 refine ⟨k1, _, rfl, SqL.of Qab, ?_⟩
 rw [show (((List.range (rff F).length).map fun _ => false).any id) = false by simp]
 refine ⟨_, rfl, iteF ?_⟩
 generalize upd H5 k1 (.lst (((List.range (rff F).length).map fun _ => false).map V.bl)) = H1 at f1 ⊢
 refine ⟨_, rfl, fl, _, rfl, .inl (SqL.of (f1 _ _ hfl)), _, rfl, by omega, by omega, ?_⟩
 refine Qcs (fun j ys H6 => ∃ bs : List Bool, ys = bs.map V.bl ∧ bs.length = j ∧ Same H5 H6 ∧ (bs.all id = true ↔ ∀ k < j, ∀ f z, fs[k]? = some f → F[k]? = some z → Eq1 fs R s F f z)) ⟨[], rfl, rfl, f1, ⟨fun _ k hk => absurd hk (Nat.not_lt_zero _), fun _ => rfl⟩⟩ (by omega) ?_ ?_ ?_
 ·rintro j ys H6 hj ⟨bs, rfl, lb, _⟩
  rw [List.length_map]
  exact lb
 ·rintro j ys H6 hj ⟨bs, rfl, lb, e6, hb⟩
  have hj6 : j < fs.length := by omega
  obtain ⟨f, hf⟩ := Qa4 hj6
  obtain ⟨z, hz⟩ : ∃ z, F[j]? = some z := Qa4 (by omega)
  refine ⟨_, rfl, _, rfl, _, rfl, _, rfl, _, rfl, fl, l, pl, fs, R, s, f, F, gs, es, j, z, rfl, e6 _ _ hfl, e6 _ _ hl, hR.same e6, hB, h6, e6 _ _ hpl, hF.same e6, hO, hFl, hf, hz, fun b H7 e7 hbb => ?_⟩
  refine ⟨bs ++ [b], by rw [List.map_append]; rfl, by rw [List.length_append, lb]; rfl, e6.trans e7, ?_⟩
  rw [List.all_append, Bool.and_eq_true, hb]
  constructor
  ·rintro ⟨a1, a2⟩ k hk f2 z2 hf2 hz2
   by_cases c : k = j
   ·rw [c, hf] at hf2
    rw [c, hz] at hz2
    cases hf2
    cases hz2
    exact hbb.mp (by simpa using a2)
   ·exact a1 k (by omega) f2 z2 hf2 hz2
  ·intro a
   exact ⟨fun k hk => a k (by omega), by simpa using hbb.mpr (a j (Nat.lt_succ_self _) f z hf hz)⟩
 rintro ys H6 ⟨bs, rfl, lb, e6, hb⟩ k2 hk2
 refine ⟨k2, bs, rfl, SqL.of Qab, q _ _ (e6.trans (Qac hk2)) (hb.trans ⟨fun a => ⟨hFl, fun j f z hf hz => a j ?_ f z hf hz⟩, fun a k _ f z hf hz => a.2 k f z hf hz⟩)⟩
 have := (List.getElem?_eq_some_iff.mp hf).1
 omega
def spSum : Sp := fun vs H Q _ => ∃ (a : Addr) (F : List Fr), vs = [.ref a] ∧ H a = some (.lst (rff F)) ∧ FF H F ∧ F.length ≤ 9 ∧ (∀ z ∈ F, N45.Bt 4200 z.2.1 ∧ N45.Bt 4200 z.2.2) ∧ ∀ p, H p = none → Q (.ref p) (upd H p (.tup [.int (N45.suF (F.map (·.2))).1, .int (N45.suF (F.map (·.2))).2]))
theorem scap0 : FnScope ["_law_some", "_law_top", "_law_bottom", "_law_one"] ["_law_some"] (defScope sap0) := fsc
theorem okap0 (D : Def K mg "_law_sum" sap0 .none) : Cal P w K mg base CX0 true 1 "_law_sum" ["_law_some"] [] spSum := by
 obtain ⟨f, fd, F, hm⟩ := D
 refine ⟨f, fd, _, F.ok scap0 (fun vs H Q E h => ?_) (fun cdv A outer s H vs Q E hr h => ?_), hm, F.kp, (F.b1), .nil, F.b1⟩
 ·obtain ⟨a, F, rfl, ha, hF, l9, hb, q⟩ := h
  rfl
 obtain ⟨a, F, rfl, ha, hF, l9, hb, q⟩ := h
 have nd := scap0.nd
 refine ⟨_, (Qae (Qak (i := 1) nd rfl (Or.inl rfl) Qaf)
  (Qae (Qak (i := 2) nd rfl (Or.inl rfl) Qaf)
  (Qae (Qbe PassesOwn.never rfl (Qax (pv 0)) (Qau (i := 3) nd rfl (Or.inl rfl)) (Qae (Qak (i := 1) nd rfl (Or.inl rfl) (Qan Qbp (Qan Qav (pv 1) (Qam Qai (pv 3) Qaf (fun _ _ => rfl))) (Qan Qav (Qam Qai (pv 3) Qaf (fun _ _ => rfl)) (pv 2))))
  (Qag (Qak (i := 2) nd rfl (Or.inl rfl) (Qan Qav (pv 2) (Qam Qai (pv 3) Qaf (fun _ _ => rfl)))))))
  (Qag (Qat (Qbm (Qaa (pv 1) (Qaa (pv 2) Qad)))))))), ?_⟩
 have hline : 10 ^ 6 ≤ sizeLine := by decide
 refine ⟨_, rfl, a, rfl, ⟨_, SqL.of ha⟩, ?_⟩
 refine Qbw (xs := rff F) (fun i σ H' => ∃ (o : Option V), σ = [some (.ref a), some (.int (N45.suF ((F.take i).map (·.2))).1), some (.int (N45.suF ((F.take i).map (·.2))).2), o] ∧ H' = H) ⟨_, rfl, rfl⟩ ?_ ?_ ?_
 ·rintro i σ H1 hi ⟨o, rfl, rfl⟩
  exact SqL.of ha
 ·rintro i x σ H1 hx ⟨o, rfl, rfl⟩
  obtain ⟨z, hz, rfl⟩ := Qd5 hx
  have zm := List.mem_of_getElem? hz
  have hT := SqT.of (K := K) (hF z zm)
  obtain ⟨b1, b2⟩ := hb z zm
  have tl : ((F.take i).map (·.2)).length ≤ 9 := by
   rw [List.length_map, List.length_take]
   omega
  obtain ⟨c1, c2⟩ := Qgb (n := 4200) (L := (F.take i).map (·.2)) (fun x hx => by
   obtain ⟨w, hw, rfl⟩ := List.mem_map.mp hx
   exact hb w (List.mem_of_mem_take hw)) (a := (0, 1)) (m := 1) (show (0 : Int).natAbs < 2 ^ 1 by decide) (show (1 : Int).natAbs < 2 ^ 1 by decide)
  have c1 : N45.Bt 40000 (N45.suF ((F.take i).map (·.2))).1 := c1.mono (by omega)
  have c2 : N45.Bt 40000 (N45.suF ((F.take i).map (·.2))).2 := c2.mono (by omega)
  have en : N45.suF ((F.take (i + 1)).map (·.2)) = N45.adF (N45.suF ((F.take i).map (·.2))) z.2 := by
   rw [Qaw hz, List.map_append]
   exact N45.Qeg _ _
  refine ⟨_, rfl, _, rfl, .inr (.inl ⟨z.1, _, 1, _, rfl, rfl, hT, rfl, _, _, rfl, rfl, mulB c1 b2 (by decide) (by decide), _, rfl, .inr (.inl ⟨z.1, _, 0, _, rfl, rfl, hT, rfl, _, rfl, _, _, rfl, rfl, mulB b1 c2 (by decide) (by decide), _, _, rfl, rfl, ?_⟩)⟩)⟩
  refine ⟨_, rfl, _, rfl, .inr (.inl ⟨z.1, _, 1, _, rfl, rfl, hT, rfl, _, _, rfl, rfl, mulB c2 b2 (by decide) (by decide), ?_⟩)⟩
  rw [en]
  exact ⟨_, rfl, rfl⟩
 rintro σ H1 ⟨o, rfl, rfl⟩
 rw [Qbd, List.take_length]
 exact ⟨_, rfl, _, rfl, (by show 2 ≤ sizeLine; decide), q⟩
theorem scaa0 : FnScope ["_law_rows", "_law_firm"] ["_law_rows", "_law_firm"] (defScope saa0) := fsc
theorem okaa0 (D : Def K mg "_law_all" saa0 .none) (z_sum : mg "sum" = none) : Cal P w K mg base CX0 true 1 "_law_all" ["_law_rows", "_law_firm"] [] spAll := by
 obtain ⟨f, fd, F, hm⟩ := D
 refine ⟨f, fd, _, F.ok scaa0 (fun vs H Q E h => ?_) (fun cdv A outer s H vs Q E hr h => ?_), hm, F.kp, (F.b2), .nil, F.b2⟩
 ·obtain ⟨l, R, f, fs, es, rfl, hl, hR, hlen, q⟩ := h
  rfl
 obtain ⟨l, R, f, fs, es, rfl, hl, hR, hlen, q⟩ := h
 have nd := scaa0.nd
 refine ⟨_, (Qag (Qat (Qao (Qct hr) rfl z_sum Qed (Qaa (Qck [1] rfl (LcOk.free ["_law_firm"] rfl rfl (List.forall_mem_cons.mpr ⟨rfl, (fun _ h => nomatch h)⟩) (by decide+kernel) rfl (by decide+kernel) rfl (by decide+kernel) (show (["_law_row", "_law_firm"] : List Str).Nodup from by decide+kernel) (List.forall_mem_cons.mpr ⟨⟨_, rfl, rfl, rfl, by decide+kernel⟩, (fun _ h => nomatch h)⟩)) (Qax (pv 0)) (fun C s2 H2 fp xe => (Qap Qb7 (Qam Qa0 (pv 0) Qaf (fun _ _ => rfl)) (pv 1) (nomark _))) (fun C s2 H2 fp xe => (Qam Qa0 (pv 0) Qaf (fun _ _ => rfl)))) Qad)))), ?_⟩
 have hline : 10 ^ 6 ≤ sizeLine := by decide
 refine ⟨_, rfl, l, rfl, ⟨_, SqL.of hl⟩, ?_⟩
 refine Qbj (xs := rfw R) (fun j ys H5 => ys = (((R.take j).filter (afB f)).map (·.2.2.2)).map V.int ∧ H5 = H) ⟨rfl, rfl⟩ (by rw [Qbc]; omega) ?_ ?_ ?_
 ·rintro j ys H5 hj ⟨rfl, rfl⟩
  refine ⟨SqL.of hl, ?_⟩
  rw [List.length_map, List.length_map]
  have h1 := List.length_filter_le (afB f) (R.take j)
  rw [List.length_take] at h1
  omega
 ·rintro j x ys H5 hx ⟨rfl, rfl⟩
  obtain ⟨y, hy, rfl⟩ := Qcv hx
  have hTy := SqT.of (K := K) (hR y (List.mem_of_getElem? hy)).1
  refine ⟨_, rfl, .inr (.inl ⟨y.1, _, 1, _, rfl, rfl, hTy, rfl, _, rfl, rfl, _, rfl, ?_⟩)⟩
  refine dec2 (fun h2 => ?_) (fun h2 => ?_)
  ·refine ⟨_, rfl, .inr (.inl ⟨y.1, _, 2, _, rfl, rfl, hTy, rfl, ?_, rfl⟩)⟩
   rw [Qaw hy, List.filter_append, List.filter_cons_of_pos (by simp [afB, V.str.inj h2]), List.map_append, List.map_append]
   rfl
  ·refine ⟨?_, rfl⟩
   have n : ¬ y.2.2.1 = f := fun z => h2 (congrArg V.str z)
   rw [Qaw hy, List.filter_append, List.filter_cons_of_neg (by simp [afB, n])]
   simp
 rintro ys H5 ⟨rfl, rfl⟩ k1 hk1
 rw [Qbc, List.take_length]
 exact ⟨k1, _, rfl, SqL.of Qab, q _ (Qac hk1)⟩
theorem scan0 : FnScope ["_law_firms", "_law_rows", "_law_holder", "_law_parts", "_law_j", "_law_some", "_law_k", "_law_due", "_law_many"] ["_law_firms", "_law_rows", "_law_holder", "_law_parts"] (defScope san0) := fsc
theorem okan0 (D : Def K mg "_law_right" san0 .none) (cag0 : Cal P w K mg base CX0 true 1 "_law_held" ["_law_rows", "_law_holder", "_law_firm"] [] spHeld) (cap0 : Cal P w K mg base CX0 true 1 "_law_sum" ["_law_some"] [] spSum) (caa0 : Cal P w K mg base CX0 true 1 "_law_all" ["_law_rows", "_law_firm"] [] spAll) (z_len : mg "len" = none) (z_range : mg "range" = none) : Cal P w K mg base CX0 true 2 "_law_right" ["_law_firms", "_law_rows", "_law_holder", "_law_parts"] [] spRgt := by
 obtain ⟨f, fd, F, hm⟩ := D
 obtain ⟨fag0, fdag0, dag0, Gag0, mag0, kag0, bag0, vag0, bag01⟩ := cag0
 obtain ⟨fap0, fdap0, dap0, Gap0, map0, kap0, bap0, vap0, bap01⟩ := cap0
 obtain ⟨faa0, fdaa0, daa0, Gaa0, maa0, kaa0, baa0, vaa0, baa01⟩ := caa0
 refine ⟨f, fd, _, F.ok scan0 (fun vs H Q E h => ?_) (fun cdv A outer s H vs Q E hr h => ?_), hm, F.kp, (F.b4), .nil, F.b4⟩
 ·obtain ⟨fl, l, pl, fs, R, s, F, gs, es, rfl, hfl, hl, hR, hB, h6, hpl, hF, hO, h9, q⟩ := h
  rfl
 obtain ⟨fl, l, pl, fs, R, s, F, gs, es, rfl, hfl, hl, hR, hB, h6, hpl, hF, hO, h9, q⟩ := h
 have nd := scan0.nd
 refine ⟨_, (Qae (Qbq (Qap Qde (Qao Qaj rfl z_len Qa1 (Qaa (pv 3) Qad)) (Qao Qaj rfl z_len Qa1 (Qaa (pv 0) Qad)) (nomark _)) (Qag (Qat Qc3)) Qay)
  (Qae (Qbe PassesOwn.never rfl (Qaz rfl z_range (Qaa (Qao Qaj rfl z_len Qa1 (Qaa (pv 0) Qad)) Qad)) (Qau (i := 4) nd rfl (Or.inl rfl)) (Qag (Qbq (Qap Qb7 (Qam Qai (pv 0) (pv 4) (fun _ _ => rfl)) (pv 2) (nomark _)) (Qag (Qbq (Qap Qde (Qam Qai (Qam Qai (pv 3) (pv 4) (fun _ _ => rfl)) Qaf (fun _ _ => rfl)) (Qam Qai (Qam Qai (pv 3) (pv 4) (fun _ _ => rfl)) Qaf (fun _ _ => rfl)) (nomark _)) (Qag (Qat Qc3)) Qay)) (Qae (Qak (i := 5) nd rfl (Or.inl rfl) (Qba (Qaa (Qbm (Qaa (Qah Gag0 (hr.mono (by decide)) rfl mag0 kag0 bag0 Paired.nil pass0 (Qaa (pv 1) (Qaa (pv 2) (Qaa (Qam Qai (pv 0) (pv 4) (fun _ _ => rfl)) Qad)))) (Qaa Qaf Qad))) Qad)))
  (Qae (Qbe PassesOwn.never rfl (Qaz rfl z_range (Qaa (Qao Qaj rfl z_len Qa1 (Qaa (pv 0) Qad)) Qad)) (Qau (i := 6) nd rfl (Or.inl rfl)) (Qag (Qbq (Qap Qde (Qam Qai (pv 0) (pv 6) (fun _ _ => rfl)) (pv 2) (nomark _)) (Qae (Qak (i := 8) nd rfl (Or.inl rfl) (Qah Gag0 (hr.mono (by decide)) rfl mag0 kag0 bag0 Paired.nil pass0 (Qaa (pv 1) (Qaa (Qam Qai (pv 0) (pv 6) (fun _ _ => rfl)) (Qaa (Qam Qai (pv 0) (pv 4) (fun _ _ => rfl)) Qad)))))
  (Qag (Qby (Qc7 PySem.F.plainAttrs_list PySem.F.slot_list_append PySem.F.type_list_append Qbs (pv 5) (Qaa (Qbm (Qaa (Qan Qav (Qam Qai (Qam Qai (pv 3) (pv 6) (fun _ _ => rfl)) Qaf (fun _ _ => rfl)) (pv 8)) (Qaa (Qam Qai (Qam Qai (pv 3) (pv 6) (fun _ _ => rfl)) Qaf (fun _ _ => rfl)) Qad))) Qad))))) Qay)))
  (Qae (Qak (i := 7) nd rfl (Or.inl rfl) (Qah Gap0 (hr.mono (by decide)) rfl map0 kap0 bap0 Paired.nil pass0 (Qaa (pv 5) Qad)))
  (Qae (Qak (i := 8) nd rfl (Or.inl rfl) (Qah Gaa0 (hr.mono (by decide)) rfl maa0 kaa0 baa0 Paired.nil pass0 (Qaa (pv 1) (Qaa (Qam Qai (pv 0) (pv 4) (fun _ _ => rfl)) Qad))))
  (Qag (Qbq (Qap Qde (Qan Qav (Qan Qav (Qam Qai (Qam Qai (pv 3) (pv 4) (fun _ _ => rfl)) Qaf (fun _ _ => rfl)) (pv 8)) (Qam Qai (pv 7) Qaf (fun _ _ => rfl))) (Qan Qav (Qam Qai (pv 7) Qaf (fun _ _ => rfl)) (Qam Qai (Qam Qai (pv 3) (pv 4) (fun _ _ => rfl)) Qaf (fun _ _ => rfl))) (nomark _)) (Qag (Qat Qc3)) Qay)))))))))
  (Qag (Qat Qc3)))), ?_⟩
 have hline : 10 ^ 6 ≤ sizeLine := by decide
 have lfm : (fs.map V.str).length = fs.length := List.length_map ..
 have hlen := hB.1
 refine ⟨_, rfl, pl, _, rfl, .inl (SqL.of hpl), _, rfl, fl, _, rfl, .inl (SqL.of hfl), rfl, _, rfl, ?_⟩
 refine ndec2 (fun h => ?_) (fun h => ?_)
 ·refine q false _ (Qas _) ⟨(fun w => nomatch w), fun w => absurd ?_ h⟩
  rw [Qbd, lfm, w.1]
 have hFl : F.length = fs.length := by
  have := V.int.inj h
  rw [Qbd, lfm] at this
  omega
 refine ⟨_, rfl, fl, _, rfl, .inl (SqL.of hfl), _, rfl, by omega, by omega, ?_⟩
 refine Qbh (fun i σ H' => ∃ (o4 o5 o6 o7 o8 : Option V), σ = [some (.ref fl), some (.ref l), some (.str s), some (.ref pl), o4, o5, o6, o7, o8] ∧ Same H H' ∧ (∀ j < i, ∀ f z, fs[j]? = some f → F[j]? = some z → Eq1 fs R s F f z)) ⟨_, _, _, _, _, rfl, Qas _, fun j hj => absurd hj (Nat.not_lt_zero _)⟩ ?_ ?_
 ·rintro i σ H1 hi ⟨o4, o5, o6, o7, o8, rfl, e1, hv⟩
  have hi6 : i < fs.length := by omega
  obtain ⟨f, hf⟩ := Qa4 hi6
  obtain ⟨z, hz⟩ : ∃ z, F[i]? = some z := Qa4 (by omega)
  obtain ⟨z1, z4, z5⟩ := hO z (List.mem_of_getElem? hz)
  have hff := at0s hf
  have hzz := at0f hz
  have hT := SqT.of (K := K) (e1 _ _ (hF z (List.mem_of_getElem? hz)))
  have hpl1 := e1 _ _ hpl
  have nxt : Eq1 fs R s F f z → ∀ j < i + 1, ∀ f z, fs[j]? = some f → F[j]? = some z → Eq1 fs R s F f z := fun w j hj f2 z2 hf2 hz2 => by
   by_cases c : j = i
   ·rw [c, hf] at hf2
    rw [c, hz] at hz2
    cases hf2
    cases hz2
    exact w
   ·exact hv j (by omega) f2 z2 hf2 hz2
  have bad : ¬ Eq1 fs R s F f z → (false = true ↔ Gd fs R s F) := fun w => ⟨(fun u => nomatch u), fun u => absurd (u.2 i f z hf hz) w⟩
  refine ⟨_, rfl, _, rfl, .inl ⟨fl, _, _, _, rfl, rfl, SqL.of (e1 _ _ hfl), hff, _, rfl, rfl, _, rfl, ?_⟩⟩
  refine dec2 (fun h => ?_) (fun h => ?_)
  ·have hs : f = s := V.str.inj h
   refine ⟨_, rfl, _, rfl, .inl ⟨pl, _, _, _, rfl, rfl, SqL.of hpl1, hzz, .inr (.inl ⟨z.1, _, 0, _, rfl, rfl, hT, rfl, _, rfl, _, rfl, .inl ⟨pl, _, _, _, rfl, rfl, SqL.of hpl1, hzz, .inr (.inl ⟨z.1, _, 1, _, rfl, rfl, hT, rfl, rfl, _, rfl, ?_⟩)⟩⟩)⟩⟩
   refine ndec2 (fun h2 => ?_) (fun h2 => ?_)
   ·exact q false _ e1 (bad fun w => h2 (congrArg V.int (w.1 hs)))
   ·exact ⟨_, _, _, _, _, rfl, e1, nxt ⟨fun _ => V.int.inj h2, fun w => absurd hs w⟩⟩
  have hs : f ≠ s := fun w => h (congrArg V.str w)
  refine ⟨_, rfl, _, rfl, _, rfl, _, rfl, .inl ⟨fl, _, _, _, rfl, rfl, SqL.of (e1 _ _ hfl), hff, l, R, s, f, gs, es, rfl, e1 _ _ hl, hR.same e1, by omega, fun H2 e2 => ⟨(by show 2 ≤ sizeLine; decide), fun tp htp => ⟨(by show 1 ≤ sizeLine; decide), fun sp hsp => ?_⟩⟩⟩⟩
  obtain ⟨hb1, hb2⟩ := Qci hB s f
  have f2 := Qac (o := .tup [.int (held R s f), .int 1]) htp
  have f3 := Qac (o := .lst [.ref tp]) hsp
  have e13 := e1.trans (e2.trans (f2.trans f3))
  have sp0 := (e1.trans (e2.trans f2)).free hsp
  have htp3 := f3 _ _ (Qab (H := H2) (a := tp) (o := .tup [.int (held R s f), .int 1]))
  have hsp3 : upd (upd H2 tp (.tup [.int (held R s f), .int 1])) sp (.lst [.ref tp]) sp = some (.lst [.ref tp]) := Qab
  generalize upd (upd H2 tp (.tup [.int (held R s f), .int 1])) sp (.lst [.ref tp]) = H3 at f3 e13 htp3 hsp3 ⊢
  refine ⟨_, rfl, fl, _, rfl, .inl (SqL.of (e13 _ _ hfl)), _, rfl, by omega, by omega, ?_⟩
  refine Qbh (fun k σ H' => ∃ (o6 o7 o8 : Option V) (G : List Fr), σ = [some (.ref fl), some (.ref l), some (.str s), some (.ref pl), some (.int (0 + (i : Int))), some (.ref sp), o6, o7, o8] ∧ Same H H' ∧ H' sp = some (.lst (rff G)) ∧ FF H' G ∧ G.length ≤ k + 1 ∧ (∀ z ∈ G, N45.Bt 4200 z.2.1 ∧ N45.Bt 4200 z.2.2) ∧ G.map (·.2) = (held R s f, 1) :: trs R s f ((fs.zip F).take k)) ⟨_, _, _, [(tp, held R s f, 1)], rfl, e13, hsp3, ?_, Nat.le_refl _, ?_, rfl⟩ ?_ ?_
  ·intro z hz
   rw [List.mem_singleton.mp hz]
   exact htp3
  ·intro z hz
   rw [List.mem_singleton.mp hz]
   exact ⟨hb1.mono (by decide), Qcg.mono (by decide)⟩
  ·rintro k σ H4 hk ⟨o6, o7, o8, G, rfl, e4, hsp4, hG, lG, bG, gv⟩
   have hk6 : k < fs.length := by omega
   obtain ⟨g, hg⟩ := Qa4 hk6
   obtain ⟨w, hw⟩ : ∃ w, F[k]? = some w := Qa4 (by omega)
   obtain ⟨w1, w4, w5⟩ := hO w (List.mem_of_getElem? hw)
   have hgg := at0s hg
   have hww := at0f hw
   have ez := Qaw (Qkl hg hw)
   refine ⟨_, rfl, _, rfl, .inl ⟨fl, _, _, _, rfl, rfl, SqL.of (e4 _ _ hfl), hgg, _, rfl, rfl, _, rfl, ?_⟩⟩
   refine ndec2 (fun h2 => ?_) (fun h2 => ?_)
   ·have hgs : g ≠ s := fun w => h2 (congrArg V.str w)
    obtain ⟨hc1, _⟩ := Qci hB g f
    refine ⟨_, rfl, _, rfl, _, rfl, .inl ⟨fl, _, _, _, rfl, rfl, SqL.of (e4 _ _ hfl), hgg, _, rfl, _, rfl, .inl ⟨fl, _, _, _, rfl, rfl, SqL.of (e4 _ _ hfl), hff, l, R, g, f, gs, es, rfl, e4 _ _ hl, hR.same e4, by omega, fun H5 e5 => ?_⟩⟩⟩
    have e45 := e4.trans e5
    have hT5 := SqT.of (K := K) (e45 _ _ (hF w (List.mem_of_getElem? hw)))
    have hpl5 := e45 _ _ hpl
    have hsp5 := e5 _ _ hsp4
    refine ⟨_, rfl, .inl ⟨rfl, _, SqL.of hsp5⟩, _, rfl, _, rfl, .inl ⟨pl, _, _, _, rfl, rfl, SqL.of hpl5, hww, .inr (.inl ⟨w.1, _, 0, _, rfl, rfl, hT5, rfl, _, rfl, _, _, rfl, rfl, mulB w4 hc1 (by decide) (by decide), _, rfl, _, rfl, .inl ⟨pl, _, _, _, rfl, rfl, SqL.of hpl5, hww, .inr (.inl ⟨w.1, _, 1, _, rfl, rfl, hT5, rfl, (by show 2 ≤ sizeLine; decide), fun tq htq => ?_⟩)⟩⟩)⟩⟩
    have f6 := Qac (o := .tup [.int (w.2.1 * held R g f), .int w.2.2]) htq
    refine ⟨sp, _, _, rfl, rfl, f6 _ _ hsp5, (by rw [Qbd]; omega), ?_⟩
    refine ⟨_, _, _, G ++ [(tq, w.2.1 * held R g f, w.2.2)], rfl, Qbo (e45.trans f6) sp0, (by rw [Qab, Qb6]; rfl), fun z hz => ?_, (by rw [List.length_append]; show G.length + 1 ≤ _; omega), fun z hz => ?_, ?_⟩
    ·rcases List.mem_append.mp hz with c | c
     ·exact Qbn (f6 _ _ (e5 _ _ (hG z c))) (f6 _ _ hsp5)
     ·rw [List.mem_singleton.mp c]
      exact Qbn Qab (f6 _ _ hsp5)
    ·rcases List.mem_append.mp hz with c | c
     ·exact bG z c
     ·rw [List.mem_singleton.mp c]
      exact ⟨(N45.Bt.mul w4 hc1).mono (by decide), w5.mono (by decide)⟩
    ·rw [List.map_append, gv, ez, Qee, if_neg hgs]
     rfl
   ·have hgs : g = s := V.str.inj h2
    refine ⟨_, _, _, G, rfl, e4, hsp4, hG, by omega, bG, ?_⟩
    rw [gv, ez, Qee, if_pos hgs]
  rintro σ H4 ⟨o6, o7, o8, G, rfl, e4, hsp4, hG, lG, bG, gv⟩
  rw [lfm, Int.toNat_natCast, List.take_of_length_le (by rw [List.length_zip]; omega)] at gv
  have gv : G.map (·.2) = trm fs R s f F := gv
  obtain ⟨c1, c2⟩ := Qgb (n := 4200) (L := G.map (·.2)) (fun x hx => by
   obtain ⟨w, hw, rfl⟩ := List.mem_map.mp hx
   exact bG w hw) (a := (0, 1)) (m := 1) (show (0 : Int).natAbs < 2 ^ 1 by decide) (show (1 : Int).natAbs < 2 ^ 1 by decide)
  have lG9 : (G.map (·.2)).length ≤ 9 := by
   rw [List.length_map]
   omega
  have c1 : N45.Bt 40000 (N45.suF (G.map (·.2))).1 := c1.mono (by omega)
  have c2 : N45.Bt 40000 (N45.suF (G.map (·.2))).2 := c2.mono (by omega)
  refine ⟨_, rfl, sp, G, rfl, hsp4, hG, by omega, bG, fun p hp => ?_⟩
  rw [gv] at c1 c2 ⊢
  have f5 := Qac (o := .tup [.int (N45.suF (trm fs R s f F)).1, .int (N45.suF (trm fs R s f F)).2]) hp
  have e5 := e4.trans f5
  refine ⟨_, rfl, _, rfl, _, rfl, .inl ⟨fl, _, _, _, rfl, rfl, SqL.of (e5 _ _ hfl), hff, l, R, f, gs, es, rfl, e5 _ _ hl, hR.same e5, by omega, fun H6 e6 => ?_⟩⟩
  have e56 := e5.trans e6
  have hTp := SqT.of (K := K) (e6 _ _ (Qab (H := H4) (a := p) (o := .tup [.int (N45.suF (trm fs R s f F)).1, .int (N45.suF (trm fs R s f F)).2])))
  have hT6 := SqT.of (K := K) (e56 _ _ (hF z (List.mem_of_getElem? hz)))
  have hpl6 := e56 _ _ hpl
  refine ⟨_, rfl, _, rfl, .inl ⟨pl, _, _, _, rfl, rfl, SqL.of hpl6, hzz, .inr (.inl ⟨z.1, _, 0, _, rfl, rfl, hT6, rfl, _, rfl, _, _, rfl, rfl, mulB z4 hb2 (by decide) (by decide), _, rfl, .inr (.inl ⟨p, _, 1, _, rfl, rfl, hTp, rfl, _, _, rfl, rfl, mulB (N45.Bt.mul z4 hb2) c2 (by decide) (by decide), _, rfl, .inr (.inl ⟨p, _, 0, _, rfl, rfl, hTp, rfl, _, rfl, _, rfl, .inl ⟨pl, _, _, _, rfl, rfl, SqL.of hpl6, hzz, .inr (.inl ⟨z.1, _, 1, _, rfl, rfl, hT6, rfl, _, _, rfl, rfl, mulB c1 z5 (by decide) (by decide), rfl, _, rfl, ?_⟩)⟩⟩)⟩)⟩)⟩⟩
  refine ndec2 (fun h2 => ?_) (fun h2 => ?_)
  ·exact q false _ e56 (bad fun w => h2 (congrArg V.int (w.2 hs)))
  ·exact ⟨_, _, _, _, _, rfl, e56, nxt ⟨fun w => absurd w hs, fun _ => V.int.inj h2⟩⟩
 rintro σ H1 ⟨o4, o5, o6, o7, o8, rfl, e1, hv⟩
 rw [lfm, Int.toNat_natCast] at hv
 exact q true _ e1 ⟨fun _ => ⟨hFl, fun j f z hf hz => hv j (List.getElem?_eq_some_iff.mp hf).1 f z hf hz⟩, fun _ => rfl⟩
structure Oi (fs : List Str) (R : List Rw) (os : List Str) : Prop where
 nd : os.Nodup
 inn : ∀ x ∈ os, x ∈ fs
 led : ∀ (j : Nat) (f : Str), os[j]? = some f → ∃ z ∈ R, z.2.2.1 = f ∧ (z.2.1 ∉ fs ∨ ∃ j2 : Nat, j2 < j ∧ os[j2]? = some z.2.1)
theorem Oi.add {fs : List Str} {R : List Rw} {os : List Str} (h : Oi fs R os) {z : Rw} (hz : z ∈ R) (hf : z.2.2.1 ∈ fs) (hn : z.2.2.1 ∉ os) (hl : z.2.1 ∉ fs ∨ z.2.1 ∈ os) : Oi fs R (os ++ [z.2.2.1]) := by
 refine ⟨List.nodup_append.mpr ⟨h.nd, by simp, fun a ha b hb w => ?_⟩, fun x hx => ?_, fun j f hj => ?_⟩
 ·rw [List.mem_singleton.mp hb] at w
  exact hn (w ▸ ha)
 ·rcases List.mem_append.mp hx with c | c
  ·exact h.inn x c
  ·rw [List.mem_singleton.mp c]
   exact hf
 ·by_cases c : j < os.length
  ·rw [List.getElem?_append_left c] at hj
   obtain ⟨y, hy, q1, q2⟩ := h.led j f hj
   exact ⟨y, hy, q1, q2.imp id fun ⟨j2, a, b⟩ => ⟨j2, a, by rw [List.getElem?_append_left (by omega)]; exact b⟩⟩
  ·have hjl := (List.getElem?_eq_some_iff.mp hj).1
   rw [List.length_append] at hjl
   have ej : j = os.length := by
    have : j < os.length + 1 := hjl
    omega
   rw [List.getElem?_append_right (by omega), ej, Nat.sub_self] at hj
   refine ⟨z, hz, Option.some.inj hj, hl.imp id fun w => ?_⟩
   obtain ⟨j2, h2, e2⟩ := List.getElem_of_mem w
   exact ⟨j2, by omega, by rw [List.getElem?_append_left h2, List.getElem?_eq_getElem h2, e2]⟩
theorem Oi.rk {fs : List Str} {R : List Rw} {os : List Str} (h : Oi fs R os) (hf : fs.Nodup) (hl : os.length = fs.length) : Rk fs R :=
 rk_of h.nd (fun f hm => by
  refine Decidable.byContradiction fun w => ?_
  have := Qbv (f :: os) fs (List.nodup_cons.mpr ⟨w, h.nd⟩) fun x hx => (List.mem_cons.mp hx).elim (fun e => e ▸ hm) (h.inn x)
  rw [List.length_cons] at this
  omega) fun j _ f hj => h.led j f hj
def spOt : Sp := fun vs H Q _ => ∃ (fl l : Addr) (fs : List Str) (R : List Rw) (gs es : List Str), vs = [.ref fl, .ref l] ∧ H fl = some (.lst (fs.map V.str)) ∧ H l = some (.lst (rfw R)) ∧ RX H gs es R ∧ R.length ≤ 62 ∧ fs.length ≤ 6 ∧ fs.Nodup ∧ (∀ z ∈ R, z.2.2.1 ∈ fs) ∧ ∀ b H', Same H H' → (b = true → Rk fs R) → Q (.bl b) H'
theorem scak0 : FnScope ["_law_firms", "_law_rows", "_law_out_here", "_law_k", "_law_row"] ["_law_firms", "_law_rows"] (defScope sak0) := fsc
theorem okak0 (D : Def K mg "_law_out" sak0 .none) (z_range : mg "range" = none) (z_len : mg "len" = none) : Cal P w K mg base CX0 true 1 "_law_out" ["_law_firms", "_law_rows"] [] spOt := by
 obtain ⟨f, fd, F, hm⟩ := D
 refine ⟨f, fd, _, F.ok scak0 (fun vs H Q E h => ?_) (fun cdv A outer s H vs Q E hr h => ?_), hm, F.kp, (F.b2), .nil, F.b2⟩
 ·obtain ⟨fl, l, fs, R, gs, es, rfl, hfl, hl, hR, hlen, h6, hfn, hin, q⟩ := h
  rfl
 obtain ⟨fl, l, fs, R, gs, es, rfl, hfl, hl, hR, hlen, h6, hfn, hin, q⟩ := h
 have nd := scak0.nd
 refine ⟨_, (Qae (Qak (i := 2) nd rfl (Or.inl rfl) (Qba Qad))
  (Qae (Qbe PassesOwn.never rfl (Qaz rfl z_range (Qaa (Qao Qaj rfl z_len Qa1 (Qaa (pv 0) Qad)) Qad)) (Qau (i := 3) nd rfl (Or.inl rfl)) (Qag (Qbe PassesOwn.never rfl (Qax (pv 1)) (Qau (i := 4) nd rfl (Or.inl rfl)) (Qag (Qbq (PW.pt (Qgm (Qap Qb4 (Qam Qai (pv 4) Qaf (fun _ _ => rfl)) (pv 2) (by with_unfolding_all rfl)) (Qel (PW.pt (Qfq (Qap Qb4 (Qam Qai (pv 4) Qaf (fun _ _ => rfl)) (pv 0) (by with_unfolding_all rfl)) (Qe1 (Qap Qe4 (Qam Qai (pv 4) Qaf (fun _ _ => rfl)) (pv 2) (by with_unfolding_all rfl)))))))) (Qag (Qby (Qc7 PySem.F.plainAttrs_list PySem.F.slot_list_append PySem.F.type_list_append Qbs (pv 2) (Qaa (Qam Qai (pv 4) Qaf (fun _ _ => rfl)) Qad)))) Qay)))))
  (Qag (Qat (Qcl Qb7 (Qao Qaj rfl z_len Qa1 (Qaa (pv 2) Qad)) (Qao Qaj rfl z_len Qa1 (Qaa (pv 0) Qad)) (nomark _)))))), ?_⟩
 have hline : 10 ^ 6 ≤ sizeLine := by decide
 have lfm : (fs.map V.str).length = fs.length := List.length_map ..
 refine ⟨(by show 0 ≤ sizeLine; decide), fun op hop => ?_⟩
 have f1 := Qac (o := .lst []) hop
 have op1 : upd H op (.lst []) op = some (.lst (([] : List Str).map V.str)) := Qab
 generalize upd H op (.lst []) = H1 at f1 op1 ⊢
 refine ⟨_, rfl, fl, _, rfl, .inl (SqL.of (f1 _ _ hfl)), _, rfl, by omega, by omega, ?_⟩
 refine Qbh (fun i σ H' => ∃ (o3 o4 : Option V) (os : List Str), σ = [some (.ref fl), some (.ref l), some (.ref op), o3, o4] ∧ Same H H' ∧ H' op = some (.lst (os.map V.str)) ∧ Oi fs R os) ⟨_, _, [], rfl, f1, op1, List.nodup_nil, (fun x hx => nomatch hx), fun j f hj => nomatch hj⟩ ?_ ?_
 ·rintro i σ H2 hi ⟨o3, o4, os, rfl, e2, op2, O⟩
  refine ⟨_, rfl, l, rfl, ⟨_, SqL.of (e2 _ _ hl)⟩, ?_⟩
  refine Qbw (xs := rfw R) (fun k σ H' => ∃ (o3 o4 : Option V) (os : List Str), σ = [some (.ref fl), some (.ref l), some (.ref op), o3, o4] ∧ Same H H' ∧ H' op = some (.lst (os.map V.str)) ∧ Oi fs R os) ⟨_, _, os, rfl, e2, op2, O⟩ ?_ ?_ ?_
  ·rintro k σ H3 hk ⟨o3, o4, os, rfl, e3, _⟩
   exact SqL.of (e3 _ _ hl)
  ·rintro k x σ H3 hx ⟨o3, o4, os, rfl, e3, op3, O⟩
   obtain ⟨y, hy, rfl⟩ := Qcv hx
   have hym := List.mem_of_getElem? hy
   have hTy := SqT.of (K := K) (e3 _ _ (hR y hym).1)
   have los : os.length ≤ fs.length := Qbv os fs O.nd O.inn
   refine ⟨_, rfl, .inr (.inl ⟨y.1, _, 1, _, rfl, rfl, hTy, rfl, _, rfl, op, _, rfl, .inl (SqL.of op3), rfl, Qb2 _, _, rfl, ?_⟩)⟩
   rw [Qb3]
   refine ndec2 (fun h1 => ?_) (fun h1 => ⟨_, _, os, rfl, e3, op3, O⟩)
   apply join1 (fun (u : Unit) => y.2.1 ∉ fs ∨ y.2.1 ∈ os)
   ·intro kk
    obtain ⟨u, _⟩ : ∃ u : Unit, True := ⟨(), trivial⟩
    refine ⟨_, rfl, .inr (.inl ⟨y.1, _, 0, _, rfl, rfl, hTy, rfl, _, rfl, fl, _, rfl, .inl (SqL.of (e3 _ _ hfl)), rfl, Qb2 _, _, rfl, ?_⟩)⟩
    rw [Qb3]
    refine ndec2 (fun h2 => ?_) (fun h2 => ?_)
    ·exact kk u (.inl h2)
    ·refine ⟨_, rfl, .inr (.inl ⟨y.1, _, 0, _, rfl, rfl, hTy, rfl, _, rfl, op, _, rfl, .inl (SqL.of op3), rfl, Qb2 _, _, rfl, ?_⟩)⟩
     rw [Qb3]
     refine dec2 (fun h3 => ?_) (fun h3 => ⟨_, _, os, rfl, e3, op3, O⟩)
     exact kk u (.inr h3)
   intro _ led
   refine ⟨_, rfl, .inl ⟨rfl, _, SqL.of op3⟩, _, rfl, .inr (.inl ⟨y.1, _, 1, _, rfl, rfl, hTy, rfl, op, _, _, rfl, rfl, op3, (by rw [List.length_map]; omega), ?_⟩)⟩
   exact ⟨_, _, os ++ [y.2.2.1], rfl, Qbo e3 hop, (by rw [Qab, List.map_append]; rfl), O.add hym (hin y hym) h1 led⟩
  rintro σ H3 ⟨o3, o4, os, rfl, e3, op3, O⟩
  exact ⟨_, _, os, rfl, e3, op3, O⟩
 rintro σ H2 ⟨o3, o4, os, rfl, e2, op2, O⟩
 refine ⟨_, rfl, op, _, rfl, .inl (SqL.of op2), _, rfl, fl, _, rfl, .inl (SqL.of (e2 _ _ hfl)), rfl, q _ _ e2 fun w => O.rk hfn ?_⟩
 have := V.int.inj (of_decide_eq_true w)
 rw [List.length_map, List.length_map] at this
 omega
theorem at0t {F : List Tl} {j : Nat} {z : Tl} (h : F[j]? = some z) : atI (rft F) (0 + (j : Int)) = some (.ref z.1) := by
 rw [Int.zero_add]
 exact Qbr (at_rft h)
theorem at0p {Y : List Pr} {j : Nat} {y : Pr} (h : Y[j]? = some y) : atI (rfp Y) (0 + (j : Int)) = some (.ref y.1) := by
 rw [Int.zero_add]
 exact Qbr (at_rfp h)
theorem at0i {r : List Int} {j : Nat} (h : j < r.length) : atI (r.map V.int) (0 + (j : Int)) = some (.int (N45.gt r j)) := by
 rw [Int.zero_add]
 exact atInt h
theorem mx_due {fs : List Str} {R : List Rw} (hn : fs.Nodup) {r : List Int} {i : Nat} {f : Str} (hf : fs[i]? = some f) : N45.mx (fs.map (dueR fs R)) r i = N45.gt r i * alls R f - N45.sm fs.length (fun j => N45.gt r j * held R f (fs.getD j f)) := by
 have hi : i < fs.length := (List.getElem?_eq_some_iff.mp hf).1
 unfold N45.mx
 rw [List.length_map, N45.Qca (g := fun k => (if k = i then N45.gt r k * alls R f else 0) + -1 * (N45.gt r k * held R f (fs.getD k f))) _ fun k hk => ?_, N45.Qgh, N45.Qeh, N45.Qdq (i := i) _ fun k _ hne => if_neg hne, if_pos hi, if_pos rfl]
 ·omega
 ·obtain ⟨g, hg⟩ := Qa4 hk
  have e : fs.getD k f = g := by
   rw [List.getD_eq_getElem?_getD, hg]
   rfl
  rw [Qiz hg, Qiy hf, e, Int.mul_sub]
  by_cases c : k = i
  ·rw [c, hf] at hg
   cases hg
   rw [if_pos c, if_pos rfl]
   omega
  ·rw [if_neg c, if_neg fun w => c (Ql2 hn hg (by rw [← w]; exact hf)), Int.mul_zero]
   omega
def spPh : Sp := fun vs H Q _ => ∃ (fl l pp : Addr) (fs : List Str) (R : List Rw) (gs es : List Str) (Y : List Pr), vs = [.ref fl, .ref l, .ref pp] ∧ H fl = some (.lst (fs.map V.str)) ∧ H l = some (.lst (rfw R)) ∧ RX H gs es R ∧ Tb fs R ∧ H pp = some (.lst (rfp Y)) ∧ PP H Y ∧ prs Y = pap (fs.map (dueR fs R)) ∧ ∀ H', Same H H' → Q (.bl true) H'
def spBp : Sp := fun vs H Q _ => ∃ (fl l pp lp op : Addr) (fs : List Str) (R : List Rw) (gs es : List Str) (Y : List Pr) (W U : List Tl), vs = [.ref fl, .ref l, .ref pp, .ref lp, .ref op] ∧ H fl = some (.lst (fs.map V.str)) ∧ H l = some (.lst (rfw R)) ∧ RX H gs es R ∧ Tb fs R ∧ H pp = some (.lst (rfp Y)) ∧ PP H Y ∧ prs Y = pap (fs.map (dueR fs R)) ∧ H lp = some (.lst (rft W)) ∧ TT H W ∧ Vlst fs R W ∧ H op = some (.lst (rft U)) ∧ TT H U ∧ Vfps fs R U ∧ ∀ H', Same H H' → Q (.bl true) H'
theorem Qkz {S : List (List Int)} {Y : List (Int × List Int)} (h : PapOk S Y) (M : N45.Mm S) {i j : Nat} {yi yj : Int × List Int} (hi : Y[i]? = some yi) (hj : Y[j]? = some yj) :
 1 ≤ (ovr (frc (N45.gt yj.2 i) yj.1) (frc (N45.gt yi.2 i) yi.1)).2 ∧ N45.Bt 4000 (ovr (frc (N45.gt yj.2 i) yj.1) (frc (N45.gt yi.2 i) yi.1)).1 ∧ N45.Bt 4000 (ovr (frc (N45.gt yj.2 i) yj.1) (frc (N45.gt yi.2 i) yi.1)).2 ∧
 N45.gt yj.2 i * yi.1 * (ovr (frc (N45.gt yj.2 i) yj.1) (frc (N45.gt yi.2 i) yi.1)).2 = (ovr (frc (N45.gt yj.2 i) yj.1) (frc (N45.gt yi.2 i) yi.1)).1 * yj.1 * N45.gt yi.2 i := by
 have iS : i < S.length := by
  rw [← h.len]
  exact (List.getElem?_eq_some_iff.mp hi).1
 have ci : (clm Y i)[i]? = some (frc (N45.gt yi.2 i) yi.1) := by
  unfold clm
  rw [List.getElem?_map, hi]
  rfl
 have cj : (clm Y i)[j]? = some (frc (N45.gt yj.2 i) yj.1) := by
  unfold clm
  rw [List.getElem?_map, hj]
  rfl
 obtain ⟨a1, a2, a3, a4⟩ := Qg5 h iS cj
 obtain ⟨b1, b2, b3, b4⟩ := Qg5 h iS ci
 obtain ⟨o1, o2, o3, o4, o5, o6⟩ := Qk0 (Qfs h).pos (Qi0 (Qfs h) M iS) a1 a2 a3 a4 b1 b2 b3 b4
 refine ⟨o2, o5, o6, ?_⟩
 obtain ⟨yi1, _⟩ := h.ato i _ hi
 obtain ⟨yj1, _⟩ := h.ato j _ hj
 have p2 : 1 ≤ (frc (N45.gt yj.2 i) yj.1).2 * (frc (N45.gt yi.2 i) yi.1).1 := Int.mul_pos (by omega) (by omega)
 have c5 := (Qb9 (t := (frc (N45.gt yj.2 i) yj.1).1 * (frc (N45.gt yi.2 i) yi.1).2) p2).2.2.2.2
 have d5 := (Qb9 (t := N45.gt yj.2 i) yj1).2.2.2.2
 have e5 := (Qb9 (t := N45.gt yi.2 i) yi1).2.2.2.2
 unfold ovr
 generalize frc ((frc (N45.gt yj.2 i) yj.1).1 * (frc (N45.gt yi.2 i) yi.1).2) ((frc (N45.gt yj.2 i) yj.1).2 * (frc (N45.gt yi.2 i) yi.1).1) = f at c5 ⊢
 generalize frc (N45.gt yj.2 i) yj.1 = a at c5 d5 a1
 generalize frc (N45.gt yi.2 i) yi.1 = b at c5 e5 b1
 refine can_D (Int.mul_pos (show 0 < a.2 by omega) (show 0 < b.2 by omega)) ?_
 have l1 : N45.gt yj.2 i * yi.1 * f.2 * (a.2 * b.2) = yj.1 * yi.1 * (a.1 * b.2 * f.2) := by
  rw [show N45.gt yj.2 i * yi.1 * f.2 * (a.2 * b.2) = N45.gt yj.2 i * a.2 * (yi.1 * (f.2 * b.2)) by simp only [Int.mul_assoc, Int.mul_comm, Int.mul_left_comm], ← d5]
  simp only [Int.mul_assoc, Int.mul_comm, Int.mul_left_comm]
 have l2 : f.1 * yj.1 * N45.gt yi.2 i * (a.2 * b.2) = yj.1 * yi.1 * (f.1 * (a.2 * b.1)) := by
  rw [show f.1 * yj.1 * N45.gt yi.2 i * (a.2 * b.2) = N45.gt yi.2 i * b.2 * (f.1 * (yj.1 * a.2)) by simp only [Int.mul_assoc, Int.mul_comm, Int.mul_left_comm], ← e5]
  simp only [Int.mul_assoc, Int.mul_comm, Int.mul_left_comm]
 rw [l1, l2, c5]
theorem scal0 : FnScope ["_law_firms", "_law_rows", "_law_paper", "_law_k", "_law_d", "_law_row", "_law_i", "_law_total", "_law_j"] ["_law_firms", "_law_rows", "_law_paper"] (defScope sal0) := fsc
theorem okal0 (D : Def K mg "_law_paper_holds" sal0 .none) (caq0 : Cal P w K mg base CX0 true 1 "_law_whole" ["_law_found"] [] spWhole) (caa0 : Cal P w K mg base CX0 true 1 "_law_all" ["_law_rows", "_law_firm"] [] spAll) (cag0 : Cal P w K mg base CX0 true 1 "_law_held" ["_law_rows", "_law_holder", "_law_firm"] [] spHeld) (z_range : mg "range" = none) (z_len : mg "len" = none) (z_int : mg "int" = none) : Cal P w K mg base CX0 true 2 "_law_paper_holds" ["_law_firms", "_law_rows", "_law_paper"] [] spPh := by
 obtain ⟨f, fd, F, hm⟩ := D
 obtain ⟨faq0, fdaq0, daq0, Gaq0, maq0, kaq0, baq0, vaq0, baq01⟩ := caq0
 obtain ⟨faa0, fdaa0, daa0, Gaa0, maa0, kaa0, baa0, vaa0, baa01⟩ := caa0
 obtain ⟨fag0, fdag0, dag0, Gag0, mag0, kag0, bag0, vag0, bag01⟩ := cag0
 refine ⟨f, fd, _, F.ok scal0 (fun vs H Q E h => ?_) (fun cdv A outer s H vs Q E hr h => ?_), hm, F.kp, (F.b3), .nil, F.b3⟩
 ·obtain ⟨fl, l, pp, fs, R, gs, es, Y, rfl, hfl, hl, hR, T, hpp, hY, hYv, q⟩ := h
  rfl
 obtain ⟨fl, l, pp, fs, R, gs, es, Y, rfl, hfl, hl, hR, T, hpp, hY, hYv, q⟩ := h
 have nd := scal0.nd
 refine ⟨_, (Qae (Qbe PassesOwn.never rfl (Qaz rfl z_range (Qaa (Qao Qaj rfl z_len Qa1 (Qaa (pv 0) Qad)) Qad)) (Qau (i := 3) nd rfl (Or.inl rfl)) (Qae (Qak (i := 4) nd rfl (Or.inl rfl) (Qam Qai (Qam Qai (pv 2) (pv 3) (fun _ _ => rfl)) Qaf (fun _ _ => rfl)))
  (Qae (Qak (i := 5) nd rfl (Or.inl rfl) (Qam Qai (Qam Qai (pv 2) (pv 3) (fun _ _ => rfl)) Qaf (fun _ _ => rfl)))
  (Qae (Qbq (PW.pt (Qfq (Qgn (Qdh (Qah Gaq0 (hr.mono (by decide)) rfl maq0 kaq0 baq0 Paired.nil pass0 (Qaa (pv 4) Qad)))) (Qfq (Qap Qjz (pv 4) Qaf (nomark _)) (Qe1 (Qap Qde (Qao Qaj rfl z_len Qa1 (Qaa (pv 5) Qad)) (Qao Qaj rfl z_len Qa1 (Qaa (pv 0) Qad)) (nomark _)))))) (Qag (Qat Qc3)) Qay)
  (Qag (Qbe PassesOwn.never rfl (Qaz rfl z_range (Qaa (Qao Qaj rfl z_len Qa1 (Qaa (pv 0) Qad)) Qad)) (Qau (i := 6) nd rfl (Or.inl rfl)) (Qae (Qak (i := 7) nd rfl (Or.inl rfl) (Qan Qav (Qam Qai (pv 5) (pv 6) (fun _ _ => rfl)) (Qah Gaa0 (hr.mono (by decide)) rfl maa0 kaa0 baa0 Paired.nil pass0 (Qaa (pv 1) (Qaa (Qam Qai (pv 0) (pv 6) (fun _ _ => rfl)) Qad)))))
  (Qae (Qbe PassesOwn.never rfl (Qaz rfl z_range (Qaa (Qao Qaj rfl z_len Qa1 (Qaa (pv 0) Qad)) Qad)) (Qau (i := 8) nd rfl (Or.inl rfl)) (Qag (Qak (i := 7) nd rfl (Or.inl rfl) (Qan Qgu (pv 7) (Qan Qav (Qam Qai (pv 5) (pv 8) (fun _ _ => rfl)) (Qah Gag0 (hr.mono (by decide)) rfl mag0 kag0 bag0 Paired.nil pass0 (Qaa (pv 1) (Qaa (Qam Qai (pv 0) (pv 6) (fun _ _ => rfl)) (Qaa (Qam Qai (pv 0) (pv 8) (fun _ _ => rfl)) Qad)))))))))
  (Qag (Qbq (Qap Qde (pv 7) (Qan Qav (pv 4) (Qbg Qfc rfl z_int Qjb (Qaa (Qcl Qb7 (pv 6) (pv 3) (nomark _)) Qad))) (nomark _)) (Qag (Qat Qc3)) Qay))))))))))
  (Qag (Qat Qc3))), ?_⟩
 have hline : 10 ^ 6 ≤ sizeLine := by decide
 have lfm : (fs.map V.str).length = fs.length := List.length_map ..
 have h6 := T.l6
 have hlen := T.rl
 have hpo := Qdg T
 have lS : (fs.map (dueR fs R)).length = fs.length := List.length_map ..
 have lY : Y.length = fs.length := by
  have := congrArg List.length hYv
  rw [List.length_map, hpo.len, lS] at this
  exact this
 have hB : Rb R := ⟨hlen, fun z hz => ⟨by have := T.s1 z hz; omega, T.s2 z hz⟩⟩
 have pY : ∀ (k : Nat) (y : Pr), Y[k]? = some y → (pap (fs.map (dueR fs R)))[k]? = some (y.2.1, y.2.2.2) := fun k y hy => by
  rw [← hYv, List.getElem?_map, hy]
  rfl
 refine ⟨_, rfl, fl, _, rfl, .inl (SqL.of hfl), _, rfl, by omega, by omega, ?_⟩
 refine Qbh (fun k σ H' => ∃ (o3 o4 o5 o6 o7 o8 : Option V), σ = [some (.ref fl), some (.ref l), some (.ref pp), o3, o4, o5, o6, o7, o8] ∧ Same H H') ⟨_, _, _, _, _, _, rfl, Qas _⟩ ?_ ?_
 ·rintro k σ H1 hk ⟨o3, o4, o5, o6, o7, o8, rfl, e1⟩
  obtain ⟨y, hy⟩ : ∃ y, Y[k]? = some y := Qa4 (by omega)
  obtain ⟨a1, a2, a3, a4, a5⟩ := hpo.ato k _ (pY k y hy)
  obtain ⟨hy1, hy2⟩ := (show PP H1 Y from hY.same e1) y (List.mem_of_getElem? hy)
  have hTy := SqT.of (K := K) hy1
  have hyy := at0p hy
  have hpp1 := e1 _ _ hpp
  refine ⟨_, rfl, _, rfl, .inl ⟨pp, _, _, _, rfl, rfl, SqL.of (hpp1), hyy, .inr (.inl ⟨y.1, _, 0, _, rfl, rfl, hTy, rfl, ?_⟩)⟩⟩
  refine ⟨_, rfl, _, rfl, .inl ⟨pp, _, _, _, rfl, rfl, SqL.of (hpp1), hyy, .inr (.inl ⟨y.1, _, 1, _, rfl, rfl, hTy, rfl, ?_⟩)⟩⟩
  refine ⟨_, rfl, _, rfl, true, rfl, iteF ?_⟩
  refine ⟨_, rfl, _, _, rfl, rfl, _, rfl, decF (by have : 1 ≤ y.2.1 := a1; omega) ?_⟩
  refine ⟨_, rfl, _, _, rfl, .inl (SqL.of hy2), _, rfl, fl, _, rfl, .inl (SqL.of (e1 _ _ hfl)), rfl, _, rfl, ndecF (congrArg V.int (by rw [List.length_map, a3, lS, lfm])) ?_⟩
  refine ⟨_, rfl, fl, _, rfl, .inl (SqL.of (e1 _ _ hfl)), _, rfl, by omega, by omega, ?_⟩
  refine Qbh (fun i σ H' => ∃ (o6 o7 o8 : Option V), σ = [some (.ref fl), some (.ref l), some (.ref pp), some (.int (0 + (k : Int))), some (.int y.2.1), some (.ref y.2.2.1), o6, o7, o8] ∧ Same H H') ⟨_, _, _, rfl, e1⟩ ?_ ?_
  ·rintro i σ H2 hi ⟨o6, o7, o8, rfl, e2⟩
   have hi6 : i < fs.length := by omega
   obtain ⟨f, hf⟩ := Qa4 hi6
   have hff := at0s hf
   have hr2 := e2 _ _ (hY y (List.mem_of_getElem? hy)).2
   have hix := at0i (r := y.2.2.2) (j := i) (by rw [a3, lS]; exact hi6)
   obtain ⟨_, hb2⟩ := Qci hB f f
   refine ⟨_, rfl, _, rfl, .inl ⟨y.2.2.1, _, _, _, rfl, rfl, SqL.of hr2, hix, _, rfl, _, rfl, _, rfl, .inl ⟨fl, _, _, _, rfl, rfl, SqL.of (e2 _ _ hfl), hff, l, R, f, gs, es, rfl, e2 _ _ hl, hR.same e2, by omega, fun H3 e3 => ⟨_, _, rfl, rfl, mulB (n := 1991) (m := 30) (N45.Qcu a4 i) hb2 (by decide) (by decide), ?_⟩⟩⟩⟩
   have e23 := e2.trans e3
   refine ⟨_, rfl, fl, _, rfl, .inl (SqL.of (e23 _ _ hfl)), _, rfl, by omega, by omega, ?_⟩
   refine Qbh (fun j σ H' => ∃ (o8 : Option V) (tot : Int), σ = [some (.ref fl), some (.ref l), some (.ref pp), some (.int (0 + (k : Int))), some (.int y.2.1), some (.ref y.2.2.1), some (.int (0 + (i : Int))), some (.int tot), o8] ∧ tot = N45.gt y.2.2.2 i * alls R f - N45.sm j (fun j => N45.gt y.2.2.2 j * held R f (fs.getD j f)) ∧ Same H H') ⟨_, _, rfl, (Int.sub_zero _).symm, e23⟩ ?_ ?_
   ·rintro j σ H4 hj ⟨o8, tot, rfl, htot, e4⟩
    have hj6 : j < fs.length := by omega
    obtain ⟨g, hg⟩ := Qa4 hj6
    have hgg := at0s hg
    have hr4 := e4 _ _ (hY y (List.mem_of_getElem? hy)).2
    have hjx := at0i (r := y.2.2.2) (j := j) (by rw [a3, lS]; exact hj6)
    obtain ⟨hc1, _⟩ := Qci hB f g
    refine ⟨_, rfl, _, rfl, _, rfl, .inl ⟨y.2.2.1, _, _, _, rfl, rfl, SqL.of hr4, hjx, _, rfl, _, rfl, _, rfl, .inl ⟨fl, _, _, _, rfl, rfl, SqL.of (e4 _ _ hfl), hff, _, rfl, _, rfl, .inl ⟨fl, _, _, _, rfl, rfl, SqL.of (e4 _ _ hfl), hgg, l, R, f, g, gs, es, rfl, e4 _ _ hl, hR.same e4, by omega, fun H5 e5 => ⟨_, _, rfl, rfl, mulB (n := 1991) (m := 30) (N45.Qcu a4 j) hc1 (by decide) (by decide), _, _, rfl, rfl, ?_⟩⟩⟩⟩⟩
    refine ⟨_, _, rfl, ?_, e4.trans e5⟩
    have eg : fs.getD j f = g := by
     rw [List.getD_eq_getElem?_getD, hg]
     rfl
    show tot - _ = _ - (N45.sm j (fun j => N45.gt y.2.2.2 j * held R f (fs.getD j f)) + N45.gt y.2.2.2 j * held R f (fs.getD j f))
    rw [htot, eg]
    omega
   rintro σ H4 ⟨o8, tot, rfl, htot, e4⟩
   rw [lfm, Int.toNat_natCast, ← mx_due T.nd hf, a5 i (by rw [lS]; exact hi6)] at htot
   refine ⟨_, rfl, _, rfl, _, rfl, _, rfl, rfl, .inr ⟨_, rfl, _, _, rfl, rfl, mulB (n := 1991) (m := 1) a2 (by unfold N45.Bt; split <;> decide) (by decide) (by decide), rfl, _, rfl, ndecF ?_ ⟨_, _, _, rfl, e4⟩⟩⟩
   rw [htot]
   refine congrArg V.int ?_
   by_cases c : i = k
   ·rw [if_pos c, decide_eq_true (by rw [c]), if_pos rfl, Int.mul_one]
   ·rw [if_neg c, decide_eq_false (fun w => c (by have := V.int.inj w; omega)), if_neg (by decide), Int.mul_zero]
  rintro σ H2 ⟨o6, o7, o8, rfl, e2⟩
  exact ⟨_, _, _, _, _, _, rfl, e2⟩
 rintro σ H1 ⟨o3, o4, o5, o6, o7, o8, rfl, e1⟩
 exact q _ e1
theorem scac0 : FnScope ["_law_firms", "_law_rows", "_law_paper", "_law_last", "_law_own", "_law_i", "_law_name", "_law_parts", "_law_j", "_law_row", "_law_top", "_law_part"] ["_law_firms", "_law_rows", "_law_paper", "_law_last", "_law_own"] (defScope sac0) := fsc
theorem okac0 (D : Def K mg "_law_by_paper" sac0 .none) (cag0 : Cal P w K mg base CX0 true 1 "_law_held" ["_law_rows", "_law_holder", "_law_firm"] [] spHeld) (z_range : mg "range" = none) (z_len : mg "len" = none) (z_sum : mg "sum" = none) : Cal P w K mg base CX0 true 2 "_law_by_paper" ["_law_firms", "_law_rows", "_law_paper", "_law_last", "_law_own"] [] spBp := by
 obtain ⟨f, fd, F, hm⟩ := D
 obtain ⟨fag0, fdag0, dag0, Gag0, mag0, kag0, bag0, vag0, bag01⟩ := cag0
 refine ⟨f, fd, _, F.ok scac0 (fun vs H Q E h => ?_) (fun cdv A outer s H vs Q E hr h => ?_), hm, F.kp, (F.b5), .nil, F.b5⟩
 ·obtain ⟨fl, l, pp, lp, op, fs, R, gs, es, Y, W, U, rfl, hfl, hl, hR, T, hpp, hY, hYv, hlp, hW, vW, hop, hU, vU, q⟩ := h
  rfl
 obtain ⟨fl, l, pp, lp, op, fs, R, gs, es, Y, W, U, rfl, hfl, hl, hR, T, hpp, hY, hYv, hlp, hW, vW, hop, hU, vU, q⟩ := h
 have nd := scac0.nd
 refine ⟨_, (Qae (Qbe PassesOwn.never rfl (Qax (pv 3)) (Qc6 rfl (Qa2 (Qau (i := 6) nd rfl (Or.inr rfl)) (Qa2 (Qau (i := 7) nd rfl (Or.inl rfl)) Qcb))) (Qag (Qbe PassesOwn.never rfl (Qaz rfl z_range (Qaa (Qao Qaj rfl z_len Qa1 (Qaa (pv 0) Qad)) Qad)) (Qau (i := 8) nd rfl (Or.inl rfl)) (Qae (Qak (i := 9) nd rfl (Or.inr rfl) (Qam Qai (Qam Qai (pv 2) (pv 8) (fun _ _ => rfl)) Qaf (fun _ _ => rfl)))
  (Qae (Qak (i := 10) nd rfl (Or.inl rfl) (Qao (Qct hr) rfl z_sum Qed (Qaa (Qc2 [9, 1, 6, 0] rfl (LcOk.free ["_law_rows", "_law_row", "_law_name", "_law_firms"] rfl rfl (List.forall_mem_cons.mpr ⟨rfl, (List.forall_mem_cons.mpr ⟨rfl, (List.forall_mem_cons.mpr ⟨rfl, (List.forall_mem_cons.mpr ⟨rfl, (fun _ h => nomatch h)⟩)⟩)⟩)⟩) (by decide+kernel) rfl (by decide+kernel) rfl (by decide+kernel) (show (["_law_i", "_law_row", "_law_rows", "_law_name", "_law_firms"] : List Str).Nodup from by decide+kernel) (List.forall_mem_cons.mpr ⟨⟨_, rfl, rfl, rfl, by decide+kernel⟩, (List.forall_mem_cons.mpr ⟨⟨_, rfl, rfl, rfl, by decide+kernel⟩, (List.forall_mem_cons.mpr ⟨⟨_, rfl, rfl, rfl, by decide+kernel⟩, (List.forall_mem_cons.mpr ⟨⟨_, rfl, rfl, rfl, by decide+kernel⟩, (fun _ h => nomatch h)⟩)⟩)⟩)⟩)) (Qaz rfl z_range (Qaa (Qao Qaj rfl z_len Qa1 (Qaa (pv 0) Qad)) Qad)) (fun C s2 H2 fp xe => (Qan Qav (Qam Qa0 (pv 1) (pv 0) (fun _ _ => rfl)) (Qah Gag0 (hr.mono (by decide)) rfl mag0 kag0 bag0 Paired.nil pass0 (Qaa (pv 2) (Qaa (pv 3) (Qaa (Qam Qa0 (pv 4) (pv 0) (fun _ _ => rfl)) Qad))))))) Qad)))
  (Qag (Qbq (Qap Qde (Qan Qav (pv 10) (Qam Qai (Qam Qai (pv 7) (pv 8) (fun _ _ => rfl)) Qaf (fun _ _ => rfl))) (Qan Qav (Qam Qai (Qam Qai (pv 7) (pv 8) (fun _ _ => rfl)) Qaf (fun _ _ => rfl)) (Qam Qai (Qam Qai (pv 2) (pv 8) (fun _ _ => rfl)) Qaf (fun _ _ => rfl))) (nomark _)) (Qag (Qat Qc3)) Qay)))))))
  (Qae (Qbe PassesOwn.never rfl (Qaz rfl z_range (Qaa (Qao Qaj rfl z_len Qa1 (Qaa (pv 0) Qad)) Qad)) (Qau (i := 5) nd rfl (Or.inl rfl)) (Qag (Qbe PassesOwn.never rfl (Qaz rfl z_range (Qaa (Qao Qaj rfl z_len Qa1 (Qaa (pv 0) Qad)) Qad)) (Qau (i := 8) nd rfl (Or.inl rfl)) (Qae (Qak (i := 11) nd rfl (Or.inl rfl) (Qam Qai (Qam Qai (Qam Qai (pv 4) (pv 5) (fun _ _ => rfl)) Qaf (fun _ _ => rfl)) (pv 8) (fun _ _ => rfl)))
  (Qae (Qak (i := 10) nd rfl (Or.inl rfl) (Qan Qav (Qam Qai (Qam Qai (Qam Qai (pv 2) (pv 8) (fun _ _ => rfl)) Qaf (fun _ _ => rfl)) (pv 5) (fun _ _ => rfl)) (Qam Qai (Qam Qai (pv 2) (pv 5) (fun _ _ => rfl)) Qaf (fun _ _ => rfl))))
  (Qag (Qbq (Qap Qde (Qan Qav (pv 10) (Qam Qai (pv 11) Qaf (fun _ _ => rfl))) (Qan Qav (Qan Qav (Qam Qai (pv 11) Qaf (fun _ _ => rfl)) (Qam Qai (Qam Qai (pv 2) (pv 8) (fun _ _ => rfl)) Qaf (fun _ _ => rfl))) (Qam Qai (Qam Qai (Qam Qai (pv 2) (pv 5) (fun _ _ => rfl)) Qaf (fun _ _ => rfl)) (pv 5) (fun _ _ => rfl))) (nomark _)) (Qag (Qat Qc3)) Qay)))))))
  (Qag (Qat Qc3)))), ?_⟩
 have hline : 10 ^ 6 ≤ sizeLine := by decide
 have lfm : (fs.map V.str).length = fs.length := List.length_map ..
 have h6 := T.l6
 have hlen := T.rl
 have hpo := Qdg T
 have lS : (fs.map (dueR fs R)).length = fs.length := List.length_map ..
 have lY : Y.length = fs.length := by
  have := congrArg List.length hYv
  rw [List.length_map, hpo.len, lS] at this
  exact this
 have hB : Rb R := ⟨hlen, fun z hz => ⟨by have := T.s1 z hz; omega, T.s2 z hz⟩⟩
 have pY : ∀ (k : Nat) (y : Pr), Y[k]? = some y → (pap (fs.map (dueR fs R)))[k]? = some (y.2.1, y.2.2.2) := fun k y hy => by
  rw [← hYv, List.getElem?_map, hy]
  rfl
 have M := Qeb T.nd T.s1 T.rk
 refine ⟨_, rfl, lp, rfl, ⟨_, SqL.of hlp⟩, ?_⟩
 refine Qbw (xs := rft W) (fun k σ H' => ∃ (o5 o6 o7 o8 o9 o10 o11 : Option V), σ = [some (.ref fl), some (.ref l), some (.ref pp), some (.ref lp), some (.ref op), o5, o6, o7, o8, o9, o10, o11] ∧ Same H H') ⟨_, _, _, _, _, _, _, rfl, Qas _⟩ ?_ ?_ ?_
 ·rintro k σ H1 hk ⟨o5, o6, o7, o8, o9, o10, o11, rfl, e1⟩
  exact SqL.of (e1 _ _ hlp)
 ·rintro k x σ H1 hx ⟨o5, o6, o7, o8, o9, o10, o11, rfl, e1⟩
  obtain ⟨w, hw, rfl⟩ := Qkt hx
  have wm := List.mem_of_getElem? hw
  obtain ⟨w1, w2, w3⟩ := hW w wm
  have vw := vW w wm
  refine ⟨w.1, _, rfl, SqT.of (e1 _ _ w1), rfl, _, _, rfl, _, _, rfl, rfl, ?_⟩
  refine ⟨_, rfl, fl, _, rfl, .inl (SqL.of (e1 _ _ hfl)), _, rfl, by omega, by omega, ?_⟩
  refine Qbh (fun j σ H' => ∃ (o5 o8 o9 o10 o11 : Option V), σ = [some (.ref fl), some (.ref l), some (.ref pp), some (.ref lp), some (.ref op), o5, some (.str w.2.1), some (.ref w.2.2.1), o8, o9, o10, o11] ∧ Same H H') ⟨_, _, _, _, _, rfl, e1⟩ ?_ ?_
  ·rintro j σ H2 hj ⟨o5, o8, o9, o10, o11, rfl, e2⟩
   have hj6 : j < fs.length := by omega
   obtain ⟨y, hy⟩ : ∃ y, Y[j]? = some y := Qa4 (by omega)
   have ym := List.mem_of_getElem? hy
   obtain ⟨a1, a2, a3, a4, _⟩ := hpo.ato j _ (pY j y hy)
   have hTy := SqT.of (K := K) (e2 _ _ (hY y ym).1)
   have hyy := at0p hy
   have hpp1 := e2 _ _ hpp
   refine ⟨_, rfl, _, rfl, .inl ⟨pp, _, _, _, rfl, rfl, SqL.of (hpp1), hyy, .inr (.inl ⟨y.1, _, 1, _, rfl, rfl, hTy, rfl, ?_⟩)⟩⟩
   refine ⟨_, rfl, fl, _, rfl, .inl (SqL.of (e2 _ _ hfl)), _, rfl, by omega, by omega, ?_⟩
   refine Qcs (fun i ys H3 => ys = ((List.range i).map fun i => N45.gt (hol R fs w.2.1) i * N45.gt y.2.2.2 i).map V.int ∧ Same H H3) ⟨rfl, e2⟩ (by omega) ?_ ?_ ?_
   ·rintro i ys H3 hi ⟨rfl, _⟩
    rw [List.length_map, List.length_map, List.length_range]
   ·rintro i ys H3 hi ⟨rfl, e3⟩
    have hi6 : i < fs.length := by omega
    obtain ⟨f, hf⟩ := Qa4 hi6
    have hff := at0s hf
    have hr3 := e3 _ _ (hY y ym).2
    have hix := at0i (r := y.2.2.2) (j := i) (by rw [a3, lS]; exact hi6)
    obtain ⟨hc1, _⟩ := Qci hB w.2.1 f
    refine ⟨_, rfl, _, rfl, .inl ⟨y.2.2.1, _, _, _, rfl, rfl, SqL.of hr3, hix, _, rfl, _, rfl, _, rfl, _, rfl, .inl ⟨fl, _, _, _, rfl, rfl, SqL.of (e3 _ _ hfl), hff, l, R, w.2.1, f, gs, es, rfl, e3 _ _ hl, hR.same e3, by omega, fun H5 e5 => ⟨_, _, rfl, rfl, mulB (n := 1991) (m := 30) (N45.Qcu a4 i) hc1 (by decide) (by decide), ?_, e3.trans e5⟩⟩⟩⟩
    rw [List.range_succ, List.map_append, List.map_append]
    have eh : N45.gt (hol R fs w.2.1) i = held R w.2.1 f := by
     unfold N45.gt hol
     rw [List.getD_eq_getElem?_getD, List.getElem?_map, hf]
     rfl
    show _ = _ ++ [V.int (N45.gt (hol R fs w.2.1) i * N45.gt y.2.2.2 i)]
    rw [eh, Int.mul_comm]
   rintro ys H3 ⟨rfl, e3⟩ k1 hk1
   have f1 := Qac (o := .lst (((List.range (Int.toNat ((fs.map V.str).length : Int))).map fun i => N45.gt (hol R fs w.2.1) i * N45.gt y.2.2.2 i).map V.int)) hk1
   have es : ((List.range (Int.toNat ((fs.map V.str).length : Int))).map fun i => N45.gt (hol R fs w.2.1) i * N45.gt y.2.2.2 i).sum = dot (hol R fs w.2.1) y.2.2.2 := by
    rw [N45.Qgf, lfm, Int.toNat_natCast]
    unfold dot
    rw [Qdv]
   refine ⟨k1, _, rfl, SqL.of Qab, ?_⟩
   rw [es]
   have e4 := e3.trans f1
   generalize upd H3 k1 (.lst (((List.range (Int.toNat ((fs.map V.str).length : Int))).map fun i => N45.gt (hol R fs w.2.1) i * N45.gt y.2.2.2 i).map V.int)) = H4 at f1 e4 ⊢
   obtain ⟨z, hz⟩ : ∃ z, w.2.2.2[j]? = some z := Qa4 (by
    have := congrArg List.length vw
    rw [List.length_map, List.length_map, hpo.len, lS] at this
    omega)
   have ez : z.2 = frc (dot (hol R fs w.2.1) y.2.2.2) y.2.1 := by
    have := congrArg (·[j]?) vw
    rw [List.getElem?_map, List.getElem?_map, hz, pY j y hy] at this
    exact Option.some.inj this
   have hTz := SqT.of (K := K) (e4 _ _ (w3 z (List.mem_of_getElem? hz)))
   have hzz := at0f hz
   have hpl4 := e4 _ _ w2
   have hTy4 := SqT.of (K := K) (e4 _ _ (hY y ym).1)
   obtain ⟨b1, b2, b3, b4, b5⟩ := Qb9 (t := dot (hol R fs w.2.1) y.2.2.2) a1
   have bd : N45.Bt 2100 (dot (hol R fs w.2.1) y.2.2.2) := (Qlc (Qip T w.2.1) a4).mono (by rw [Qdv]; omega)
   rw [← ez] at b2 b3 b5
   have bz1 : N45.Bt 2100 z.2.1 := Nat.lt_of_le_of_lt b3 bd
   have bz2 : N45.Bt 1991 z.2.2 := Nat.lt_of_le_of_lt b2 a2
   exact ⟨_, rfl, _, rfl, _, rfl, .inl ⟨w.2.2.1, _, _, _, rfl, rfl, SqL.of hpl4, hzz, .inr (.inl ⟨z.1, _, 1, _, rfl, rfl, hTz, rfl, _, _, rfl, rfl, mulB (n := 2100) (m := 1991) bd bz2 (by decide) (by decide), _, rfl, _, rfl, .inl ⟨w.2.2.1, _, _, _, rfl, rfl, SqL.of hpl4, hzz, .inr (.inl ⟨z.1, _, 0, _, rfl, rfl, hTz, rfl, _, rfl, _, rfl, .inl ⟨pp, _, _, _, rfl, rfl, SqL.of (e4 _ _ hpp), hyy, .inr (.inl ⟨y.1, _, 0, _, rfl, rfl, hTy4, rfl, _, _, rfl, rfl, mulB (n := 2100) (m := 1991) bz1 a2 (by decide) (by decide), rfl, _, rfl, ndecF (congrArg V.int b5.symm) ⟨_, _, _, _, _, rfl, e4⟩⟩)⟩⟩)⟩⟩)⟩⟩
  rintro σ H2 ⟨o5, o8, o9, o10, o11, rfl, e2⟩
  exact ⟨_, _, _, _, _, _, _, rfl, e2⟩
 rintro σ H1 ⟨o5, o6, o7, o8, o9, o10, o11, rfl, e1⟩
 refine ⟨_, rfl, fl, _, rfl, .inl (SqL.of (e1 _ _ hfl)), _, rfl, by omega, by omega, ?_⟩
 refine Qbh (fun i σ H' => ∃ (o5 o6 o7 o8 o9 o10 o11 : Option V), σ = [some (.ref fl), some (.ref l), some (.ref pp), some (.ref lp), some (.ref op), o5, o6, o7, o8, o9, o10, o11] ∧ Same H H') ⟨_, _, _, _, _, _, _, rfl, e1⟩ ?_ ?_
 ·rintro i σ H2 hi ⟨o5, o6, o7, o8, o9, o10, o11, rfl, e2⟩
  have hi6 : i < fs.length := by omega
  obtain ⟨u, hu⟩ : ∃ u, U[i]? = some u := Qa4 (by rw [vU.1]; exact hi6)
  obtain ⟨u1, u2, u3⟩ := hU u (List.mem_of_getElem? hu)
  have vu := vU.2 i u hu
  obtain ⟨yi, hyi⟩ : ∃ y, Y[i]? = some y := Qa4 (by omega)
  have yim := List.mem_of_getElem? hyi
  refine ⟨_, rfl, fl, _, rfl, .inl (SqL.of (e2 _ _ hfl)), _, rfl, by omega, by omega, ?_⟩
  refine Qbh (fun j σ H' => ∃ (o6 o7 o8 o9 o10 o11 : Option V), σ = [some (.ref fl), some (.ref l), some (.ref pp), some (.ref lp), some (.ref op), some (.int (0 + (i : Int))), o6, o7, o8, o9, o10, o11] ∧ Same H H') ⟨_, _, _, _, _, _, rfl, e2⟩ ?_ ?_
  ·rintro j σ H3 hj ⟨o6, o7, o8, o9, o10, o11, rfl, e3⟩
   have hj6 : j < fs.length := by omega
   obtain ⟨y, hy⟩ : ∃ y, Y[j]? = some y := Qa4 (by omega)
   have ym := List.mem_of_getElem? hy
   have pi := pY i yi hyi
   have pj := pY j y hy
   obtain ⟨a1, a2, a3, a4, _⟩ := hpo.ato j _ pj
   obtain ⟨c1, c2, c3, c4, _⟩ := hpo.ato i _ pi
   obtain ⟨o1, o2, o3, o4⟩ := Qkz hpo M pi pj
   have lc : (clm (pap (fs.map (dueR fs R))) i).length = fs.length := by
    unfold clm
    rw [List.length_map, hpo.len, lS]
   obtain ⟨z, hz⟩ : ∃ z, u.2.2.2[j]? = some z := Qa4 (by
    have := congrArg List.length vu
    rw [List.length_map, List.length_map, lc] at this
    omega)
   have ez : z.2 = ovr (frc (N45.gt y.2.2.2 i) y.2.1) (frc (N45.gt yi.2.2.2 i) yi.2.1) := by
    have := congrArg (·[j]?) vu
    unfold clm at this
    rw [List.getElem?_map, List.getElem?_map, List.getElem?_map, hz, pj, List.getD_eq_getElem?_getD, List.getElem?_map, pi] at this
    exact Option.some.inj this
   have o2 : N45.Bt 4000 z.2.1 := by rw [ez]; exact o2
   have o3 : N45.Bt 4000 z.2.2 := by rw [ez]; exact o3
   have o4 : N45.gt y.2.2.2 i * yi.2.1 * z.2.2 = z.2.1 * y.2.1 * N45.gt yi.2.2.2 i := by rw [ez]; exact o4
   have hTz := SqT.of (K := K) (e3 _ _ (u3 z (List.mem_of_getElem? hz)))
   have hzz := at0f hz
   have hTy := SqT.of (K := K) (e3 _ _ (hY y ym).1)
   have hTi := SqT.of (K := K) (e3 _ _ (hY yi yim).1)
   have hyy := at0p hy
   have hyi0 := at0p hyi
   have hpp1 := e3 _ _ hpp
   have hr := e3 _ _ (hY y ym).2
   have hri := e3 _ _ (hY yi yim).2
   have hix := at0i (r := y.2.2.2) (j := i) (by rw [a3, lS]; exact hi6)
   have hii := at0i (r := yi.2.2.2) (j := i) (by rw [c3, lS]; exact hi6)
   have g1 : N45.Bt 1991 (N45.gt y.2.2.2 i) := N45.Qcu a4 i
   have g2 : N45.Bt 1991 (N45.gt yi.2.2.2 i) := N45.Qcu c4 i
   refine ⟨_, rfl, _, rfl, .inl ⟨op, _, _, _, rfl, rfl, SqL.of (e3 _ _ hop), at0t hu, .inr (.inl ⟨u.1, _, 1, _, rfl, rfl, SqT.of (e3 _ _ u1), rfl, _, rfl, .inl ⟨u.2.2.1, _, _, _, rfl, rfl, SqL.of (e3 _ _ u2), hzz, ?_⟩⟩)⟩⟩
   refine ⟨_, rfl, _, rfl, .inl ⟨pp, _, _, _, rfl, rfl, SqL.of (hpp1), hyy, .inr (.inl ⟨y.1, _, 1, _, rfl, rfl, hTy, rfl, _, rfl, .inl ⟨y.2.2.1, _, _, _, rfl, rfl, SqL.of hr, hix, _, rfl, _, rfl, .inl ⟨pp, _, _, _, rfl, rfl, SqL.of (hpp1), hyi0, .inr (.inl ⟨yi.1, _, 0, _, rfl, rfl, hTi, rfl, _, _, rfl, rfl, mulB (n := 1991) (m := 1991) g1 c2 (by decide) (by decide), ?_⟩)⟩⟩⟩)⟩⟩
   exact ⟨_, rfl, _, rfl, .inr (.inl ⟨z.1, _, 1, _, rfl, rfl, hTz, rfl, _, _, rfl, rfl, mulB (n := 3982) (m := 4000) (N45.Bt.mul g1 c2) o3 (by decide) (by decide), _, rfl, .inr (.inl ⟨z.1, _, 0, _, rfl, rfl, hTz, rfl, _, rfl, _, rfl, .inl ⟨pp, _, _, _, rfl, rfl, SqL.of (hpp1), hyy, .inr (.inl ⟨y.1, _, 0, _, rfl, rfl, hTy, rfl, _, _, rfl, rfl, mulB (n := 4000) (m := 1991) o2 a2 (by decide) (by decide), _, rfl, _, rfl, .inl ⟨pp, _, _, _, rfl, rfl, SqL.of (hpp1), hyi0, .inr (.inl ⟨yi.1, _, 1, _, rfl, rfl, hTi, rfl, _, rfl, .inl ⟨yi.2.2.1, _, _, _, rfl, rfl, SqL.of hri, hii, _, _, rfl, rfl, mulB (n := 5991) (m := 1991) (N45.Bt.mul o2 a2) g2 (by decide) (by decide), rfl, _, rfl, ndecF (congrArg V.int o4) ⟨_, _, _, _, _, _, rfl, e3⟩⟩⟩)⟩⟩)⟩⟩)⟩)⟩
  rintro σ H3 ⟨o6, o7, o8, o9, o10, o11, rfl, e3⟩
  exact ⟨_, _, _, _, _, _, _, rfl, e3⟩
 rintro σ H2 ⟨o5, o6, o7, o8, o9, o10, o11, rfl, e2⟩
 exact q _ e2
def Fok (H : Hp) (F : List Fr) : Prop := FF H F ∧ Fo F
theorem Fok.same {H H' : Hp} {F : List Fr} (h : Fok H F) (e : Same H H') : Fok H' F := ⟨h.1.same e, h.2⟩
theorem Fok.sub {H : Hp} {F G : List Fr} (h : Fok H F) (s : ∀ z ∈ G, z ∈ F) : Fok H G := ⟨fun z hz => h.1 z (s z hz), fun z hz => h.2 z (s z hz)⟩
theorem Fok.app {H : Hp} {F G : List Fr} (h : Fok H F) (k : Fok H G) : Fok H (F ++ G) := ⟨h.1.app k.1, fun z hz => (List.mem_append.mp hz).elim (h.2 z) (k.2 z)⟩
theorem Fok.one {H : Hp} {p : Addr} {x y : Int} (hp : H p = some (.tup [.int x, .int y])) (hy : 1 ≤ y) (h1 : N45.Bt 4100 x) (h2 : N45.Bt 4100 y) (n : Nat) : Fok H (List.replicate n (p, x, y)) := ⟨fun z hz => by rw [(List.mem_replicate.mp hz).2]; exact hp, fun z hz => by rw [(List.mem_replicate.mp hz).2]; exact ⟨hy, h1, h2⟩⟩
theorem Qe0 (p : Addr) (x y : Int) (n : Nat) : (List.replicate n [V.ref p]).flatten = rff (List.replicate n (p, x, y)) := by
 unfold rff
 rw [List.map_replicate]
 induction n with
 | zero => rfl
 | succ n ih =>
   rw [List.replicate_succ, List.flatten_cons, ih]
   rfl
theorem Qg3 (F : List Fr) (lo hi : Option Int) : ∃ G, cutV (rff F) lo hi = rff G ∧ (∀ z ∈ G, z ∈ F) ∧ G.length ≤ F.length := by
 refine ⟨(F.drop (HT.sIx (rff F).length 0 lo)).take (HT.sIx (rff F).length (rff F).length hi - HT.sIx (rff F).length 0 lo), ?_, fun z hz => List.mem_of_mem_drop (List.mem_of_mem_take hz), ?_⟩
 ·unfold cutV
  generalize (rff F).length = n
  unfold rff
  rw [List.map_take, List.map_drop]
 ·rw [List.length_take, List.length_drop]
  omega
theorem ff_ix {F : List Fr} {i : Int} (h0 : 0 ≤ i) (h1 : i < F.length) : ∃ z ∈ F, atI (rff F) i = some (.ref z.1) := by
 obtain ⟨n, rfl⟩ := Int.eq_ofNat_of_zero_le h0
 obtain ⟨z, hz⟩ := Qa4 (l := F) (k := n) (by omega)
 exact ⟨z, List.mem_of_getElem? hz, Qbr (Qjf hz)⟩
abbrev Lf := Addr × List Fr
def LLs (H : Hp) (Ls : List Lf) : Prop := ∀ z ∈ Ls, H z.1 = some (.lst (rff z.2)) ∧ Fok H z.2 ∧ z.2.length ≤ 20
theorem LLs.same {H H' : Hp} {Ls : List Lf} (h : LLs H Ls) (e : Same H H') : LLs H' Ls := fun z hz => ⟨e _ _ (h z hz).1, (h z hz).2.1.same e, (h z hz).2.2⟩
def rfs (Ls : List Lf) : List V := Ls.map fun z => .ref z.1
def Fp (F : List Fr) : Prop := ∀ z ∈ F, 1 ≤ z.2.2 ∧ N45.Bt 4000 z.2.1 ∧ N45.Bt 4000 z.2.2
def spLs : Sp := fun vs H Q _ => ∃ (pl : Addr) (F : List Fr) (c : Int), vs = [.ref pl, .int c] ∧ H pl = some (.lst (rff F)) ∧ FF H F ∧ Fp F ∧ 1 ≤ F.length ∧ F.length ≤ 6 ∧ ∀ (t : Addr) (Ls : List Lf) H', Same H H' → H' t = some (.lst (rfs Ls)) → LLs H' Ls → Q (.ref t) H'
theorem scah0 : FnScope ["_law_parts", "_law_cell", "_law_at", "_law_by", "_law_step", "_law_some"] ["_law_parts", "_law_cell"] (defScope sah0) := fsc
theorem okah0 (D : Def K mg "_law_lists" sah0 .none) (cai0 : Cal P w K mg base CX0 true 1 "_law_mix" ["_law_cell", "_law_by"] [] spMix) (cap0 : Cal P w K mg base CX0 true 1 "_law_sum" ["_law_some"] [] spSum) (z_len : mg "len" = none) : Cal P w K mg base CX0 true 3 "_law_lists" ["_law_parts", "_law_cell"] [] spLs := by
 obtain ⟨f, fd, F, hm⟩ := D
 obtain ⟨fai0, fdai0, dai0, Gai0, mai0, kai0, bai0, vai0, bai01⟩ := cai0
 obtain ⟨fap0, fdap0, dap0, Gap0, map0, kap0, bap0, vap0, bap01⟩ := cap0
 refine ⟨f, fd, _, F.ok scah0 (fun vs H Q E h => ?_) (fun cdv A outer s H vs Q E hr h => ?_), hm, F.kp, (F.b2), .nil, F.b2⟩
 ·obtain ⟨pl, F, c, rfl, hpl, hF, hO, h1, h6, q⟩ := h
  rfl
 obtain ⟨pl, F, c, rfl, hpl, hF, hO, h1, h6, q⟩ := h
 have nd := scah0.nd
 refine ⟨_, (Qae (Qak (i := 2) nd rfl (Or.inl rfl) (Qan Qa8 (Qah Gai0 (hr.mono (by decide)) rfl mai0 kai0 bai0 Paired.nil pass0 (Qaa (pv 1) (Qaa Qaf Qad))) (Qao Qaj rfl z_len Qa1 (Qaa (pv 0) Qad))))
  (Qae (Qak (i := 3) nd rfl (Or.inr rfl) (Qan Qbp (Qan Qa8 (Qah Gai0 (hr.mono (by decide)) rfl mai0 kai0 bai0 Paired.nil pass0 (Qaa (pv 1) (Qaa Qaf Qad))) (Qan Qk1 Qaf Qaf)) Qaf))
  (Qae (Qak (i := 4) nd rfl (Or.inl rfl) (Qah Gap0 (hr.mono (by decide)) rfl map0 kap0 bap0 Paired.nil pass0 (Qaa (Qba (Qaa (Qam Qai (pv 0) (pv 2) (fun _ _ => rfl)) (Qaa (Qbm (Qaa (Qan Qgu (Qan Qa8 (Qah Gai0 (hr.mono (by decide)) rfl mai0 kai0 bai0 Paired.nil pass0 (Qaa (pv 1) (Qaa Qaf Qad))) Qaf) Qaf) (Qaa (pv 3) Qad))) Qad))) Qad)))
  (Qae (Qak (i := 5) nd rfl (Or.inl rfl) (Qba (Qaa (pv 0) (Qaa (Qc2 [3] rfl (LcOk.free ["_law_by"] rfl rfl (List.forall_mem_cons.mpr ⟨rfl, (fun _ h => nomatch h)⟩) (by decide+kernel) rfl (by decide+kernel) rfl (by decide+kernel) (show (["_law_one", "_law_by"] : List Str).Nodup from by decide+kernel) (List.forall_mem_cons.mpr ⟨⟨_, rfl, rfl, rfl, by decide+kernel⟩, (fun _ h => nomatch h)⟩)) (Qax (pv 0)) (fun C s2 H2 fp xe => (Qbm (Qaa (Qan Qav (pv 1) (Qam Qa0 (pv 0) Qaf (fun _ _ => rfl))) (Qaa (Qan Qav (pv 1) (Qam Qa0 (pv 0) Qaf (fun _ _ => rfl))) Qad))))) (Qaa (Qan Qb1 (Qan Qb1 (Qa3 Qbf (pv 0) Qbl (Qa9 (pv 2))) (Qba (Qaa (pv 4) Qad))) (Qa3 Qbf (pv 0) (Qa9 (Qan Qbp (pv 2) Qaf)) Qbl)) Qad)))))
  (Qae (Qak (i := 5) nd rfl (Or.inl rfl) (Qan Qb1 (pv 5) (Qba (Qaa (Qan Qb1 (Qa3 Qbf (pv 0) Qbl (Qa9 (pv 2))) (Qa3 Qbf (pv 0) (Qa9 (Qan Qbp (pv 2) Qaf)) Qbl)) (Qaa (Qan Qb1 (pv 0) (Qba (Qaa (Qam Qai (pv 0) (pv 2) (fun _ _ => rfl)) Qad))) Qad)))))
  (Qae (Qak (i := 5) nd rfl (Or.inl rfl) (Qan Qb1 (pv 5) (Qba (Qaa (Qan Qe3 (Qba (Qaa (Qbm (Qaa Qaf (Qaa Qaf Qad))) Qad)) (Qao Qaj rfl z_len Qa1 (Qaa (pv 0) Qad))) (Qaa (Qan Qe3 (Qba (Qaa (Qbm (Qaa Qaf (Qaa Qaf Qad))) Qad)) (Qao Qaj rfl z_len Qa1 (Qaa (pv 0) Qad))) (Qaa (Qan Qe3 (Qba (Qaa (Qbm (Qaa (pv 3) (Qaa Qaf Qad))) Qad)) (Qao Qaj rfl z_len Qa1 (Qaa (pv 0) Qad))) Qad))))))
  (Qag (Qat (pv 5))))))))), ?_⟩
 have hline : 10 ^ 6 ≤ sizeLine := by decide
 have lF : (rff F).length = F.length := Qbd F
 refine ⟨_, rfl, _, 48271, rfl, by decide, fun n1 a0 a1 => ⟨_, rfl, pl, _, rfl, .inl (SqL.of hpl), _, _, rfl, rfl, (by show (0 : Int) < ((rff F).length : Int); omega), ?_⟩⟩
 obtain ⟨z, zm, hat⟩ := ff_ix (F := F) (i := n1 % ((rff F).length : Int)) (Int.emod_nonneg _ (by omega)) (by have := Int.emod_lt_of_pos n1 (show (0 : Int) < ((rff F).length : Int) by omega); omega)
 refine ⟨_, rfl, _, 69621, rfl, by decide, fun n2 b0 b1 => ⟨_, _, rfl, rfl, ⟨by decide, by decide, by decide⟩, _, _, rfl, rfl, (by show (0 : Int) < 10 ^ 6; decide), _, _, rfl, rfl, ?_⟩⟩
 have y0 : 2 ≤ (n2 % (10 : Int) ^ (6 : Int).toNat + 2) ∧ (n2 % (10 : Int) ^ (6 : Int).toNat + 2) ≤ 1000001 := by
  have e : (10 : Int) ^ (6 : Int).toNat = 1000000 := rfl
  omega
 have by1 : N45.Bt 20 (n2 % (10 : Int) ^ (6 : Int).toNat + 2) := by
  unfold N45.Bt
  omega
 obtain ⟨z1, z2, z3⟩ := hO z zm
 refine ⟨_, rfl, _, rfl, .inl ⟨pl, _, _, _, rfl, rfl, SqL.of hpl, hat, _, rfl, _, 39373, rfl, by decide, fun n3 c0 c1 => ⟨_, _, rfl, rfl, (by show (0 : Int) < 9; decide), _, _, rfl, rfl, _, rfl, (by show 2 ≤ sizeLine; decide), fun tp htp => ⟨(by show 2 ≤ sizeLine; decide), fun lp hlp => ?_⟩⟩⟩⟩
 have f1 := Qac (o := .tup [.int (n3 % 9 - 4), .int (n2 % (10 : Int) ^ (6 : Int).toNat + 2)]) htp
 have f2 := Qac (o := .lst [.ref z.1, .ref tp]) hlp
 have e2 := f1.trans f2
 have htp2 := f2 _ _ (Qab (H := H) (a := tp) (o := .tup [.int (n3 % 9 - 4), .int (n2 % (10 : Int) ^ (6 : Int).toNat + 2)]))
 have hlp2 : upd (upd H tp (.tup [.int (n3 % 9 - 4), .int (n2 % (10 : Int) ^ (6 : Int).toNat + 2)])) lp (.lst [.ref z.1, .ref tp]) lp = some (.lst (rff [z, (tp, (n3 % 9 - 4), (n2 % (10 : Int) ^ (6 : Int).toNat + 2))])) := Qab
 have bk : N45.Bt 4 (n3 % 9 - 4) := by
  unfold N45.Bt
  omega
 refine ⟨lp, [z, (tp, (n3 % 9 - 4), (n2 % (10 : Int) ^ (6 : Int).toNat + 2))], rfl, hlp2, fun w hw => ?_, by show 2 ≤ 9; decide, fun w hw => ?_, fun sp hsp => ?_⟩
 ·rcases List.mem_cons.mp hw with rfl | hw
  ·exact e2 _ _ (hF _ zm)
  ·rw [List.mem_singleton.mp hw]
   exact htp2
 ·rcases List.mem_cons.mp hw with rfl | hw
  ·exact ⟨z2.mono (by decide), z3.mono (by decide)⟩
  ·rw [List.mem_singleton.mp hw]
   exact ⟨bk.mono (by decide), by1.mono (by decide)⟩
 have es : N45.suF ([z, (tp, (n3 % 9 - 4), (n2 % (10 : Int) ^ (6 : Int).toNat + 2))].map (·.2)) = (z.2.1 * (n2 % (10 : Int) ^ (6 : Int).toNat + 2) + (n3 % 9 - 4) * z.2.2, z.2.2 * (n2 % (10 : Int) ^ (6 : Int).toNat + 2)) := by
  show ((0 * z.2.2 + z.2.1 * 1) * (n2 % (10 : Int) ^ (6 : Int).toNat + 2) + (n3 % 9 - 4) * (1 * z.2.2), 1 * z.2.2 * (n2 % (10 : Int) ^ (6 : Int).toNat + 2)) = _
  rw [Int.zero_mul, Int.zero_add, Int.mul_one, Int.one_mul]
 rw [es]
 have f3 := Qac (o := .tup [.int (z.2.1 * (n2 % (10 : Int) ^ (6 : Int).toNat + 2) + (n3 % 9 - 4) * z.2.2), .int (z.2.2 * (n2 % (10 : Int) ^ (6 : Int).toNat + 2))]) hsp
 have hsp3 : upd (upd (upd H tp (.tup [.int (n3 % 9 - 4), .int (n2 % (10 : Int) ^ (6 : Int).toNat + 2)])) lp (.lst [.ref z.1, .ref tp])) sp (.tup [.int (z.2.1 * (n2 % (10 : Int) ^ (6 : Int).toNat + 2) + (n3 % 9 - 4) * z.2.2), .int (z.2.2 * (n2 % (10 : Int) ^ (6 : Int).toNat + 2))]) sp = some (.tup [.int (z.2.1 * (n2 % (10 : Int) ^ (6 : Int).toNat + 2) + (n3 % 9 - 4) * z.2.2), .int (z.2.2 * (n2 % (10 : Int) ^ (6 : Int).toNat + 2))]) := Qab
 have e3 := e2.trans f3
 generalize upd (upd (upd H tp (.tup [.int (n3 % 9 - 4), .int (n2 % (10 : Int) ^ (6 : Int).toNat + 2)])) lp (.lst [.ref z.1, .ref tp])) sp (.tup [.int (z.2.1 * (n2 % (10 : Int) ^ (6 : Int).toNat + 2) + (n3 % 9 - 4) * z.2.2), .int (z.2.2 * (n2 % (10 : Int) ^ (6 : Int).toNat + 2))]) = H3 at f3 hsp3 e3 ⊢
 have b1 : N45.Bt 4100 (z.2.1 * (n2 % (10 : Int) ^ (6 : Int).toNat + 2) + (n3 % 9 - 4) * z.2.2) := (N45.Bt.add (n := 4020) (N45.Bt.mul z2 by1) ((N45.Bt.mul bk z3).mono (by decide))).mono (by decide)
 have b2 : N45.Bt 4100 (z.2.2 * (n2 % (10 : Int) ^ (6 : Int).toNat + 2)) := (N45.Bt.mul z3 by1).mono (by decide)
 have b3 : 1 ≤ z.2.2 * (n2 % (10 : Int) ^ (6 : Int).toNat + 2) := Int.mul_pos (by omega) (by omega)
 have hF3 : Fok H3 F := ⟨hF.same e3, fun w hw => ⟨(hO w hw).1, (hO w hw).2.1.mono (by decide), (hO w hw).2.2.mono (by decide)⟩⟩
 refine ⟨_, rfl, _, rfl, pl, rfl, ⟨_, SqL.of (e3 _ _ hpl)⟩, ?_⟩
 refine Qbz (xs := rff F) (fun j ys H4 => ∃ G : List Fr, ys = rff G ∧ Same H3 H4 ∧ Fok H4 G ∧ G.length = j) ⟨[], rfl, Qas _, ⟨(fun z hz => nomatch hz), fun z hz => nomatch hz⟩, rfl⟩ (by omega) ?_ ?_ ?_
 ·rintro j ys H4 hj ⟨G, rfl, e4, _, lG⟩
  exact ⟨SqL.of (e4 _ _ (e3 _ _ hpl)), by rw [Qbd, lG]⟩
 ·rintro j x ys H4 hx ⟨G, rfl, e4, hG, lG⟩
  obtain ⟨w, hw, rfl⟩ := Qd5 hx
  have wm := List.mem_of_getElem? hw
  have hTw := SqT.of (K := K) (e4 _ _ (hF3.1 w wm))
  obtain ⟨w1, w2, w3⟩ := hO w wm
  refine ⟨_, rfl, _, rfl, .inr (.inl ⟨w.1, _, 0, _, rfl, rfl, hTw, rfl, _, _, rfl, rfl, mulB (n := 20) (m := 4000) by1 w2 (by decide) (by decide), _, rfl, _, rfl, .inr (.inl ⟨w.1, _, 1, _, rfl, rfl, hTw, rfl, _, _, rfl, rfl, mulB (n := 20) (m := 4000) by1 w3 (by decide) (by decide), (by show 2 ≤ sizeLine; decide), fun tw htw => ?_⟩)⟩)⟩
  have f5 := Qac (o := .tup [.int ((n2 % (10 : Int) ^ (6 : Int).toNat + 2) * w.2.1), .int ((n2 % (10 : Int) ^ (6 : Int).toNat + 2) * w.2.2)]) htw
  refine ⟨G ++ [(tw, (n2 % (10 : Int) ^ (6 : Int).toNat + 2) * w.2.1, (n2 % (10 : Int) ^ (6 : Int).toNat + 2) * w.2.2)], by rw [Qb6]; rfl, e4.trans f5, (hG.same f5).app (Fok.one Qab (Int.mul_pos (by omega) (by omega)) ((N45.Bt.mul by1 w2).mono (by decide)) ((N45.Bt.mul by1 w3).mono (by decide)) 1), by rw [List.length_append, lG]; rfl⟩
 rintro ys H4 ⟨G, rfl, e4, hG, lG⟩ sc hsc
 have lG : G.length = F.length := by omega
 have f5 := Qac (o := .lst (rff G)) hsc
 have hsc5 : upd H4 sc (.lst (rff G)) sc = some (.lst (rff G)) := Qab
 have e5 := e3.trans (e4.trans f5)
 have s5 := e4.trans f5
 have hG5 := hG.same f5
 generalize upd H4 sc (.lst (rff G)) = H5 at f5 hsc5 e5 s5 hG5 ⊢
 refine ⟨_, rfl, _, rfl, _, rfl, pl, _, rfl, SqL.of ((Qas H5) _ _ (e5 _ _ hpl)), fun x1 hx1 => ?_⟩
 obtain ⟨A1, eA1, sA1, lA1⟩ := Qg3 F none (some (n1 % ((rff F).length : Int)))
 rw [eA1]
 have g1 := Qac (o := .lst (rff A1)) hx1
 have vx1 : upd H5 x1 (.lst (rff A1)) x1 = some (.lst (rff A1)) := Qab
 have J1_ := (Qas H5).trans g1
 generalize upd H5 x1 (.lst (rff A1)) = J1 at g1 vx1 J1_ ⊢
 refine ⟨_, rfl, (by show 1 ≤ sizeLine; decide), fun x2 hx2 => ?_⟩
 have g2 := Qac (o := .lst [.ref sp]) hx2
 have vx2 : upd J1 x2 (.lst [.ref sp]) x2 = some (.lst [.ref sp]) := Qab
 have J2_ := J1_.trans g2
 have vx1 := g2 _ _ vx1
 generalize upd J1 x2 (.lst [.ref sp]) = J2 at g2 vx2 J2_ vx1 ⊢
 refine ⟨x1, x2, _, _, rfl, rfl, vx1, vx2, (by simp only [List.length_append, Qbd, List.length_cons, List.length_nil]; omega), fun x3 hx3 => ?_⟩
 have g3 := Qac (o := .lst (rff A1 ++ [.ref sp])) hx3
 have vx3 : upd J2 x3 (.lst (rff A1 ++ [.ref sp])) x3 = some (.lst (rff A1 ++ [.ref sp])) := Qab
 have J3_ := J2_.trans g3
 have vx1 := g3 _ _ vx1
 have vx2 := g3 _ _ vx2
 generalize upd J2 x3 (.lst (rff A1 ++ [.ref sp])) = J3 at g3 vx3 J3_ vx1 vx2 ⊢
 refine ⟨_, rfl, _, rfl, _, _, rfl, rfl, _, rfl, pl, _, rfl, SqL.of (J3_ _ _ (e5 _ _ hpl)), fun x4 hx4 => ?_⟩
 obtain ⟨A2, eA2, sA2, lA2⟩ := Qg3 F (some ((n1 % ((rff F).length : Int)) + 1)) none
 rw [eA2]
 have g4 := Qac (o := .lst (rff A2)) hx4
 have vx4 : upd J3 x4 (.lst (rff A2)) x4 = some (.lst (rff A2)) := Qab
 have J4_ := J3_.trans g4
 have vx1 := g4 _ _ vx1
 have vx2 := g4 _ _ vx2
 have vx3 := g4 _ _ vx3
 generalize upd J3 x4 (.lst (rff A2)) = J4 at g4 vx4 J4_ vx1 vx2 vx3 ⊢
 refine ⟨x3, x4, _, _, rfl, rfl, vx3, vx4, (by simp only [List.length_append, Qbd, List.length_cons, List.length_nil]; omega), fun x5 hx5 => ?_⟩
 have g5 := Qac (o := .lst (rff A1 ++ [.ref sp] ++ rff A2)) hx5
 have vx5 : upd J4 x5 (.lst (rff A1 ++ [.ref sp] ++ rff A2)) x5 = some (.lst (rff A1 ++ [.ref sp] ++ rff A2)) := Qab
 have J5_ := J4_.trans g5
 have vx1 := g5 _ _ vx1
 have vx2 := g5 _ _ vx2
 have vx3 := g5 _ _ vx3
 have vx4 := g5 _ _ vx4
 generalize upd J4 x5 (.lst (rff A1 ++ [.ref sp] ++ rff A2)) = J5 at g5 vx5 J5_ vx1 vx2 vx3 vx4 ⊢
 refine ⟨(by show 3 ≤ sizeLine; decide), fun s1 hs1 => ?_⟩
 have g6 := Qac (o := .lst [.ref pl, .ref sc, .ref x5]) hs1
 have vs1 : upd J5 s1 (.lst [.ref pl, .ref sc, .ref x5]) s1 = some (.lst [.ref pl, .ref sc, .ref x5]) := Qab
 have J6_ := J5_.trans g6
 have vx1 := g6 _ _ vx1
 have vx2 := g6 _ _ vx2
 have vx3 := g6 _ _ vx3
 have vx4 := g6 _ _ vx4
 have vx5 := g6 _ _ vx5
 generalize upd J5 s1 (.lst [.ref pl, .ref sc, .ref x5]) = J6 at g6 vs1 J6_ vx1 vx2 vx3 vx4 vx5 ⊢
 refine ⟨_, rfl, ?_⟩
 refine ⟨_, rfl, _, rfl, _, rfl, pl, _, rfl, SqL.of (J6_ _ _ (e5 _ _ hpl)), fun x6 hx6 => ?_⟩
 obtain ⟨A3, eA3, sA3, lA3⟩ := Qg3 F none (some (n1 % ((rff F).length : Int)))
 rw [eA3]
 have g7 := Qac (o := .lst (rff A3)) hx6
 have vx6 : upd J6 x6 (.lst (rff A3)) x6 = some (.lst (rff A3)) := Qab
 have J7_ := J6_.trans g7
 have vx1 := g7 _ _ vx1
 have vx2 := g7 _ _ vx2
 have vx3 := g7 _ _ vx3
 have vx4 := g7 _ _ vx4
 have vx5 := g7 _ _ vx5
 have vs1 := g7 _ _ vs1
 generalize upd J6 x6 (.lst (rff A3)) = J7 at g7 vx6 J7_ vx1 vx2 vx3 vx4 vx5 vs1 ⊢
 refine ⟨_, rfl, _, rfl, _, _, rfl, rfl, _, rfl, pl, _, rfl, SqL.of (J7_ _ _ (e5 _ _ hpl)), fun x7 hx7 => ?_⟩
 obtain ⟨A4, eA4, sA4, lA4⟩ := Qg3 F (some ((n1 % ((rff F).length : Int)) + 1)) none
 rw [eA4]
 have g8 := Qac (o := .lst (rff A4)) hx7
 have vx7 : upd J7 x7 (.lst (rff A4)) x7 = some (.lst (rff A4)) := Qab
 have J8_ := J7_.trans g8
 have vx1 := g8 _ _ vx1
 have vx2 := g8 _ _ vx2
 have vx3 := g8 _ _ vx3
 have vx4 := g8 _ _ vx4
 have vx5 := g8 _ _ vx5
 have vs1 := g8 _ _ vs1
 have vx6 := g8 _ _ vx6
 generalize upd J7 x7 (.lst (rff A4)) = J8 at g8 vx7 J8_ vx1 vx2 vx3 vx4 vx5 vs1 vx6 ⊢
 refine ⟨x6, x7, _, _, rfl, rfl, vx6, vx7, (by simp only [List.length_append, Qbd, List.length_cons, List.length_nil]; omega), fun x8 hx8 => ?_⟩
 have g9 := Qac (o := .lst (rff A3 ++ rff A4)) hx8
 have vx8 : upd J8 x8 (.lst (rff A3 ++ rff A4)) x8 = some (.lst (rff A3 ++ rff A4)) := Qab
 have J9_ := J8_.trans g9
 have vx1 := g9 _ _ vx1
 have vx2 := g9 _ _ vx2
 have vx3 := g9 _ _ vx3
 have vx4 := g9 _ _ vx4
 have vx5 := g9 _ _ vx5
 have vs1 := g9 _ _ vs1
 have vx6 := g9 _ _ vx6
 have vx7 := g9 _ _ vx7
 generalize upd J8 x8 (.lst (rff A3 ++ rff A4)) = J9 at g9 vx8 J9_ vx1 vx2 vx3 vx4 vx5 vs1 vx6 vx7 ⊢
 refine ⟨_, rfl, _, rfl, _, rfl, .inl ⟨pl, _, _, _, rfl, rfl, SqL.of (J9_ _ _ (e5 _ _ hpl)), hat, (by show 1 ≤ sizeLine; decide), fun x9 hx9 => ?_⟩⟩
 have g10 := Qac (o := .lst [.ref z.1]) hx9
 have vx9 : upd J9 x9 (.lst [.ref z.1]) x9 = some (.lst [.ref z.1]) := Qab
 have J10_ := J9_.trans g10
 have vx1 := g10 _ _ vx1
 have vx2 := g10 _ _ vx2
 have vx3 := g10 _ _ vx3
 have vx4 := g10 _ _ vx4
 have vx5 := g10 _ _ vx5
 have vs1 := g10 _ _ vs1
 have vx6 := g10 _ _ vx6
 have vx7 := g10 _ _ vx7
 have vx8 := g10 _ _ vx8
 generalize upd J9 x9 (.lst [.ref z.1]) = J10 at g10 vx9 J10_ vx1 vx2 vx3 vx4 vx5 vs1 vx6 vx7 vx8 ⊢
 refine ⟨pl, x9, _, _, rfl, rfl, (J10_ _ _ (e5 _ _ hpl)), vx9, (by simp only [List.length_append, Qbd, List.length_cons, List.length_nil]; omega), fun x10 hx10 => ?_⟩
 have g11 := Qac (o := .lst (rff F ++ [.ref z.1])) hx10
 have vx10 : upd J10 x10 (.lst (rff F ++ [.ref z.1])) x10 = some (.lst (rff F ++ [.ref z.1])) := Qab
 have J11_ := J10_.trans g11
 have vx1 := g11 _ _ vx1
 have vx2 := g11 _ _ vx2
 have vx3 := g11 _ _ vx3
 have vx4 := g11 _ _ vx4
 have vx5 := g11 _ _ vx5
 have vs1 := g11 _ _ vs1
 have vx6 := g11 _ _ vx6
 have vx7 := g11 _ _ vx7
 have vx8 := g11 _ _ vx8
 have vx9 := g11 _ _ vx9
 generalize upd J10 x10 (.lst (rff F ++ [.ref z.1])) = J11 at g11 vx10 J11_ vx1 vx2 vx3 vx4 vx5 vs1 vx6 vx7 vx8 vx9 ⊢
 refine ⟨(by show 2 ≤ sizeLine; decide), fun x11 hx11 => ?_⟩
 have g12 := Qac (o := .lst [.ref x8, .ref x10]) hx11
 have vx11 : upd J11 x11 (.lst [.ref x8, .ref x10]) x11 = some (.lst [.ref x8, .ref x10]) := Qab
 have J12_ := J11_.trans g12
 have vx1 := g12 _ _ vx1
 have vx2 := g12 _ _ vx2
 have vx3 := g12 _ _ vx3
 have vx4 := g12 _ _ vx4
 have vx5 := g12 _ _ vx5
 have vs1 := g12 _ _ vs1
 have vx6 := g12 _ _ vx6
 have vx7 := g12 _ _ vx7
 have vx8 := g12 _ _ vx8
 have vx9 := g12 _ _ vx9
 have vx10 := g12 _ _ vx10
 generalize upd J11 x11 (.lst [.ref x8, .ref x10]) = J12 at g12 vx11 J12_ vx1 vx2 vx3 vx4 vx5 vs1 vx6 vx7 vx8 vx9 vx10 ⊢
 refine ⟨s1, x11, _, _, rfl, rfl, vs1, vx11, (by show 5 ≤ sizeLine; omega), fun s2 hs2 => ?_⟩
 have g13 := Qac (o := .lst ([.ref pl, .ref sc, .ref x5] ++ [.ref x8, .ref x10])) hs2
 have vs2 : upd J12 s2 (.lst ([.ref pl, .ref sc, .ref x5] ++ [.ref x8, .ref x10])) s2 = some (.lst ([.ref pl, .ref sc, .ref x5] ++ [.ref x8, .ref x10])) := Qab
 have J13_ := J12_.trans g13
 have vx1 := g13 _ _ vx1
 have vx2 := g13 _ _ vx2
 have vx3 := g13 _ _ vx3
 have vx4 := g13 _ _ vx4
 have vx5 := g13 _ _ vx5
 have vs1 := g13 _ _ vs1
 have vx6 := g13 _ _ vx6
 have vx7 := g13 _ _ vx7
 have vx8 := g13 _ _ vx8
 have vx9 := g13 _ _ vx9
 have vx10 := g13 _ _ vx10
 have vx11 := g13 _ _ vx11
 generalize upd J12 s2 (.lst ([.ref pl, .ref sc, .ref x5] ++ [.ref x8, .ref x10])) = J13 at g13 vs2 J13_ vx1 vx2 vx3 vx4 vx5 vs1 vx6 vx7 vx8 vx9 vx10 vx11 ⊢
 refine ⟨_, rfl, ?_⟩
 refine ⟨(by show 2 ≤ sizeLine; decide), fun t0 ht0 => ?_⟩
 have g14 := Qac (o := .tup [.int 0, .int 1]) ht0
 have vt0 : upd J13 t0 (.tup [.int 0, .int 1]) t0 = some (.tup [.int 0, .int 1]) := Qab
 have J14_ := J13_.trans g14
 have vx1 := g14 _ _ vx1
 have vx2 := g14 _ _ vx2
 have vx3 := g14 _ _ vx3
 have vx4 := g14 _ _ vx4
 have vx5 := g14 _ _ vx5
 have vs1 := g14 _ _ vs1
 have vx6 := g14 _ _ vx6
 have vx7 := g14 _ _ vx7
 have vx8 := g14 _ _ vx8
 have vx9 := g14 _ _ vx9
 have vx10 := g14 _ _ vx10
 have vx11 := g14 _ _ vx11
 have vs2 := g14 _ _ vs2
 generalize upd J13 t0 (.tup [.int 0, .int 1]) = J14 at g14 vt0 J14_ vx1 vx2 vx3 vx4 vx5 vs1 vx6 vx7 vx8 vx9 vx10 vx11 vs2 ⊢
 refine ⟨(by show 1 ≤ sizeLine; decide), fun y0 hy0 => ?_⟩
 have g15 := Qac (o := .lst [.ref t0]) hy0
 have vy0 : upd J14 y0 (.lst [.ref t0]) y0 = some (.lst [.ref t0]) := Qab
 have J15_ := J14_.trans g15
 have vx1 := g15 _ _ vx1
 have vx2 := g15 _ _ vx2
 have vx3 := g15 _ _ vx3
 have vx4 := g15 _ _ vx4
 have vx5 := g15 _ _ vx5
 have vs1 := g15 _ _ vs1
 have vx6 := g15 _ _ vx6
 have vx7 := g15 _ _ vx7
 have vx8 := g15 _ _ vx8
 have vx9 := g15 _ _ vx9
 have vx10 := g15 _ _ vx10
 have vx11 := g15 _ _ vx11
 have vs2 := g15 _ _ vs2
 have vt0 := g15 _ _ vt0
 generalize upd J14 y0 (.lst [.ref t0]) = J15 at g15 vy0 J15_ vx1 vx2 vx3 vx4 vx5 vs1 vx6 vx7 vx8 vx9 vx10 vx11 vs2 vt0 ⊢
 refine ⟨_, rfl, pl, _, rfl, .inl (SqL.of (J15_ _ _ (e5 _ _ hpl))), y0, _, _, rfl, rfl, vy0, by omega, by omega, (by show 1 * _ ≤ sizeLine; rw [Int.toNat_natCast]; omega), fun r0 hr0 => ?_⟩
 rw [Int.toNat_natCast, Qe0 t0 0 1]
 have g16 := Qac (o := .lst (rff (List.replicate (rff F).length (t0, 0, 1)))) hr0
 have vr0 : upd J15 r0 (.lst (rff (List.replicate (rff F).length (t0, 0, 1)))) r0 = some (.lst (rff (List.replicate (rff F).length (t0, 0, 1)))) := Qab
 have J16_ := J15_.trans g16
 have vx1 := g16 _ _ vx1
 have vx2 := g16 _ _ vx2
 have vx3 := g16 _ _ vx3
 have vx4 := g16 _ _ vx4
 have vx5 := g16 _ _ vx5
 have vs1 := g16 _ _ vs1
 have vx6 := g16 _ _ vx6
 have vx7 := g16 _ _ vx7
 have vx8 := g16 _ _ vx8
 have vx9 := g16 _ _ vx9
 have vx10 := g16 _ _ vx10
 have vx11 := g16 _ _ vx11
 have vs2 := g16 _ _ vs2
 have vt0 := g16 _ _ vt0
 have vy0 := g16 _ _ vy0
 generalize upd J15 r0 (.lst (rff (List.replicate (rff F).length (t0, 0, 1)))) = J16 at g16 vr0 J16_ vx1 vx2 vx3 vx4 vx5 vs1 vx6 vx7 vx8 vx9 vx10 vx11 vs2 vt0 vy0 ⊢
 refine ⟨(by show 2 ≤ sizeLine; decide), fun t1 ht1 => ?_⟩
 have g17 := Qac (o := .tup [.int 1, .int 1]) ht1
 have vt1 : upd J16 t1 (.tup [.int 1, .int 1]) t1 = some (.tup [.int 1, .int 1]) := Qab
 have J17_ := J16_.trans g17
 have vx1 := g17 _ _ vx1
 have vx2 := g17 _ _ vx2
 have vx3 := g17 _ _ vx3
 have vx4 := g17 _ _ vx4
 have vx5 := g17 _ _ vx5
 have vs1 := g17 _ _ vs1
 have vx6 := g17 _ _ vx6
 have vx7 := g17 _ _ vx7
 have vx8 := g17 _ _ vx8
 have vx9 := g17 _ _ vx9
 have vx10 := g17 _ _ vx10
 have vx11 := g17 _ _ vx11
 have vs2 := g17 _ _ vs2
 have vt0 := g17 _ _ vt0
 have vy0 := g17 _ _ vy0
 have vr0 := g17 _ _ vr0
 generalize upd J16 t1 (.tup [.int 1, .int 1]) = J17 at g17 vt1 J17_ vx1 vx2 vx3 vx4 vx5 vs1 vx6 vx7 vx8 vx9 vx10 vx11 vs2 vt0 vy0 vr0 ⊢
 refine ⟨(by show 1 ≤ sizeLine; decide), fun y1 hy1 => ?_⟩
 have g18 := Qac (o := .lst [.ref t1]) hy1
 have vy1 : upd J17 y1 (.lst [.ref t1]) y1 = some (.lst [.ref t1]) := Qab
 have J18_ := J17_.trans g18
 have vx1 := g18 _ _ vx1
 have vx2 := g18 _ _ vx2
 have vx3 := g18 _ _ vx3
 have vx4 := g18 _ _ vx4
 have vx5 := g18 _ _ vx5
 have vs1 := g18 _ _ vs1
 have vx6 := g18 _ _ vx6
 have vx7 := g18 _ _ vx7
 have vx8 := g18 _ _ vx8
 have vx9 := g18 _ _ vx9
 have vx10 := g18 _ _ vx10
 have vx11 := g18 _ _ vx11
 have vs2 := g18 _ _ vs2
 have vt0 := g18 _ _ vt0
 have vy0 := g18 _ _ vy0
 have vr0 := g18 _ _ vr0
 have vt1 := g18 _ _ vt1
 generalize upd J17 y1 (.lst [.ref t1]) = J18 at g18 vy1 J18_ vx1 vx2 vx3 vx4 vx5 vs1 vx6 vx7 vx8 vx9 vx10 vx11 vs2 vt0 vy0 vr0 vt1 ⊢
 refine ⟨_, rfl, pl, _, rfl, .inl (SqL.of (J18_ _ _ (e5 _ _ hpl))), y1, _, _, rfl, rfl, vy1, by omega, by omega, (by show 1 * _ ≤ sizeLine; rw [Int.toNat_natCast]; omega), fun r1 hr1 => ?_⟩
 rw [Int.toNat_natCast, Qe0 t1 1 1]
 have g19 := Qac (o := .lst (rff (List.replicate (rff F).length (t1, 1, 1)))) hr1
 have vr1 : upd J18 r1 (.lst (rff (List.replicate (rff F).length (t1, 1, 1)))) r1 = some (.lst (rff (List.replicate (rff F).length (t1, 1, 1)))) := Qab
 have J19_ := J18_.trans g19
 have vx1 := g19 _ _ vx1
 have vx2 := g19 _ _ vx2
 have vx3 := g19 _ _ vx3
 have vx4 := g19 _ _ vx4
 have vx5 := g19 _ _ vx5
 have vs1 := g19 _ _ vs1
 have vx6 := g19 _ _ vx6
 have vx7 := g19 _ _ vx7
 have vx8 := g19 _ _ vx8
 have vx9 := g19 _ _ vx9
 have vx10 := g19 _ _ vx10
 have vx11 := g19 _ _ vx11
 have vs2 := g19 _ _ vs2
 have vt0 := g19 _ _ vt0
 have vy0 := g19 _ _ vy0
 have vr0 := g19 _ _ vr0
 have vt1 := g19 _ _ vt1
 have vy1 := g19 _ _ vy1
 generalize upd J18 r1 (.lst (rff (List.replicate (rff F).length (t1, 1, 1)))) = J19 at g19 vr1 J19_ vx1 vx2 vx3 vx4 vx5 vs1 vx6 vx7 vx8 vx9 vx10 vx11 vs2 vt0 vy0 vr0 vt1 vy1 ⊢
 refine ⟨_, rfl, (by show 2 ≤ sizeLine; decide), fun t2 ht2 => ?_⟩
 have g20 := Qac (o := .tup [.int (n2 % (10 : Int) ^ (6 : Int).toNat + 2), .int 7]) ht2
 have vt2 : upd J19 t2 (.tup [.int (n2 % (10 : Int) ^ (6 : Int).toNat + 2), .int 7]) t2 = some (.tup [.int (n2 % (10 : Int) ^ (6 : Int).toNat + 2), .int 7]) := Qab
 have J20_ := J19_.trans g20
 have vx1 := g20 _ _ vx1
 have vx2 := g20 _ _ vx2
 have vx3 := g20 _ _ vx3
 have vx4 := g20 _ _ vx4
 have vx5 := g20 _ _ vx5
 have vs1 := g20 _ _ vs1
 have vx6 := g20 _ _ vx6
 have vx7 := g20 _ _ vx7
 have vx8 := g20 _ _ vx8
 have vx9 := g20 _ _ vx9
 have vx10 := g20 _ _ vx10
 have vx11 := g20 _ _ vx11
 have vs2 := g20 _ _ vs2
 have vt0 := g20 _ _ vt0
 have vy0 := g20 _ _ vy0
 have vr0 := g20 _ _ vr0
 have vt1 := g20 _ _ vt1
 have vy1 := g20 _ _ vy1
 have vr1 := g20 _ _ vr1
 generalize upd J19 t2 (.tup [.int (n2 % (10 : Int) ^ (6 : Int).toNat + 2), .int 7]) = J20 at g20 vt2 J20_ vx1 vx2 vx3 vx4 vx5 vs1 vx6 vx7 vx8 vx9 vx10 vx11 vs2 vt0 vy0 vr0 vt1 vy1 vr1 ⊢
 refine ⟨(by show 1 ≤ sizeLine; decide), fun y2 hy2 => ?_⟩
 have g21 := Qac (o := .lst [.ref t2]) hy2
 have vy2 : upd J20 y2 (.lst [.ref t2]) y2 = some (.lst [.ref t2]) := Qab
 have J21_ := J20_.trans g21
 have vx1 := g21 _ _ vx1
 have vx2 := g21 _ _ vx2
 have vx3 := g21 _ _ vx3
 have vx4 := g21 _ _ vx4
 have vx5 := g21 _ _ vx5
 have vs1 := g21 _ _ vs1
 have vx6 := g21 _ _ vx6
 have vx7 := g21 _ _ vx7
 have vx8 := g21 _ _ vx8
 have vx9 := g21 _ _ vx9
 have vx10 := g21 _ _ vx10
 have vx11 := g21 _ _ vx11
 have vs2 := g21 _ _ vs2
 have vt0 := g21 _ _ vt0
 have vy0 := g21 _ _ vy0
 have vr0 := g21 _ _ vr0
 have vt1 := g21 _ _ vt1
 have vy1 := g21 _ _ vy1
 have vr1 := g21 _ _ vr1
 have vt2 := g21 _ _ vt2
 generalize upd J20 y2 (.lst [.ref t2]) = J21 at g21 vy2 J21_ vx1 vx2 vx3 vx4 vx5 vs1 vx6 vx7 vx8 vx9 vx10 vx11 vs2 vt0 vy0 vr0 vt1 vy1 vr1 vt2 ⊢
 refine ⟨_, rfl, pl, _, rfl, .inl (SqL.of (J21_ _ _ (e5 _ _ hpl))), y2, _, _, rfl, rfl, vy2, by omega, by omega, (by show 1 * _ ≤ sizeLine; rw [Int.toNat_natCast]; omega), fun r2 hr2 => ?_⟩
 rw [Int.toNat_natCast, Qe0 t2 (n2 % (10 : Int) ^ (6 : Int).toNat + 2) 7]
 have g22 := Qac (o := .lst (rff (List.replicate (rff F).length (t2, (n2 % (10 : Int) ^ (6 : Int).toNat + 2), 7)))) hr2
 have vr2 : upd J21 r2 (.lst (rff (List.replicate (rff F).length (t2, (n2 % (10 : Int) ^ (6 : Int).toNat + 2), 7)))) r2 = some (.lst (rff (List.replicate (rff F).length (t2, (n2 % (10 : Int) ^ (6 : Int).toNat + 2), 7)))) := Qab
 have J22_ := J21_.trans g22
 have vx1 := g22 _ _ vx1
 have vx2 := g22 _ _ vx2
 have vx3 := g22 _ _ vx3
 have vx4 := g22 _ _ vx4
 have vx5 := g22 _ _ vx5
 have vs1 := g22 _ _ vs1
 have vx6 := g22 _ _ vx6
 have vx7 := g22 _ _ vx7
 have vx8 := g22 _ _ vx8
 have vx9 := g22 _ _ vx9
 have vx10 := g22 _ _ vx10
 have vx11 := g22 _ _ vx11
 have vs2 := g22 _ _ vs2
 have vt0 := g22 _ _ vt0
 have vy0 := g22 _ _ vy0
 have vr0 := g22 _ _ vr0
 have vt1 := g22 _ _ vt1
 have vy1 := g22 _ _ vy1
 have vr1 := g22 _ _ vr1
 have vt2 := g22 _ _ vt2
 have vy2 := g22 _ _ vy2
 generalize upd J21 r2 (.lst (rff (List.replicate (rff F).length (t2, (n2 % (10 : Int) ^ (6 : Int).toNat + 2), 7)))) = J22 at g22 vr2 J22_ vx1 vx2 vx3 vx4 vx5 vs1 vx6 vx7 vx8 vx9 vx10 vx11 vs2 vt0 vy0 vr0 vt1 vy1 vr1 vt2 vy2 ⊢
 refine ⟨(by show 3 ≤ sizeLine; decide), fun x12 hx12 => ?_⟩
 have g23 := Qac (o := .lst [.ref r0, .ref r1, .ref r2]) hx12
 have vx12 : upd J22 x12 (.lst [.ref r0, .ref r1, .ref r2]) x12 = some (.lst [.ref r0, .ref r1, .ref r2]) := Qab
 have J23_ := J22_.trans g23
 have vx1 := g23 _ _ vx1
 have vx2 := g23 _ _ vx2
 have vx3 := g23 _ _ vx3
 have vx4 := g23 _ _ vx4
 have vx5 := g23 _ _ vx5
 have vs1 := g23 _ _ vs1
 have vx6 := g23 _ _ vx6
 have vx7 := g23 _ _ vx7
 have vx8 := g23 _ _ vx8
 have vx9 := g23 _ _ vx9
 have vx10 := g23 _ _ vx10
 have vx11 := g23 _ _ vx11
 have vs2 := g23 _ _ vs2
 have vt0 := g23 _ _ vt0
 have vy0 := g23 _ _ vy0
 have vr0 := g23 _ _ vr0
 have vt1 := g23 _ _ vt1
 have vy1 := g23 _ _ vy1
 have vr1 := g23 _ _ vr1
 have vt2 := g23 _ _ vt2
 have vy2 := g23 _ _ vy2
 have vr2 := g23 _ _ vr2
 generalize upd J22 x12 (.lst [.ref r0, .ref r1, .ref r2]) = J23 at g23 vx12 J23_ vx1 vx2 vx3 vx4 vx5 vs1 vx6 vx7 vx8 vx9 vx10 vx11 vs2 vt0 vy0 vr0 vt1 vy1 vr1 vt2 vy2 vr2 ⊢
 refine ⟨s2, x12, _, _, rfl, rfl, vs2, vx12, (by show 8 ≤ sizeLine; omega), fun s3 hs3 => ?_⟩
 have g24 := Qac (o := .lst ([.ref pl, .ref sc, .ref x5] ++ [.ref x8, .ref x10] ++ [.ref r0, .ref r1, .ref r2])) hs3
 have vs3 : upd J23 s3 (.lst ([.ref pl, .ref sc, .ref x5] ++ [.ref x8, .ref x10] ++ [.ref r0, .ref r1, .ref r2])) s3 = some (.lst ([.ref pl, .ref sc, .ref x5] ++ [.ref x8, .ref x10] ++ [.ref r0, .ref r1, .ref r2])) := Qab
 have J24_ := J23_.trans g24
 have vx1 := g24 _ _ vx1
 have vx2 := g24 _ _ vx2
 have vx3 := g24 _ _ vx3
 have vx4 := g24 _ _ vx4
 have vx5 := g24 _ _ vx5
 have vs1 := g24 _ _ vs1
 have vx6 := g24 _ _ vx6
 have vx7 := g24 _ _ vx7
 have vx8 := g24 _ _ vx8
 have vx9 := g24 _ _ vx9
 have vx10 := g24 _ _ vx10
 have vx11 := g24 _ _ vx11
 have vs2 := g24 _ _ vs2
 have vt0 := g24 _ _ vt0
 have vy0 := g24 _ _ vy0
 have vr0 := g24 _ _ vr0
 have vt1 := g24 _ _ vt1
 have vy1 := g24 _ _ vy1
 have vr1 := g24 _ _ vr1
 have vt2 := g24 _ _ vt2
 have vy2 := g24 _ _ vy2
 have vr2 := g24 _ _ vr2
 have vx12 := g24 _ _ vx12
 generalize upd J23 s3 (.lst ([.ref pl, .ref sc, .ref x5] ++ [.ref x8, .ref x10] ++ [.ref r0, .ref r1, .ref r2])) = J24 at g24 vs3 J24_ vx1 vx2 vx3 vx4 vx5 vs1 vx6 vx7 vx8 vx9 vx10 vx11 vs2 vt0 vy0 vr0 vt1 vy1 vr1 vt2 vy2 vr2 vx12 ⊢
 have hFe : Fok J24 F := (hF3.same s5).same J24_
 have hGe := hG5.same J24_
 have hSp : Fok J24 [(sp, z.2.1 * (n2 % (10 : Int) ^ (6 : Int).toNat + 2) + (n3 % 9 - 4) * z.2.2, z.2.2 * (n2 % (10 : Int) ^ (6 : Int).toNat + 2))] := Fok.one (J24_ _ _ (s5 _ _ hsp3)) b3 b1 b2 1
 have bo : N45.Bt 4100 1 := Qcg.mono (by decide)
 have bz : N45.Bt 4100 0 := Nat.two_pow_pos _
 refine ⟨_, rfl, q s3 [(pl, F), (sc, G), (x5, A1 ++ [(sp, z.2.1 * (n2 % (10 : Int) ^ (6 : Int).toNat + 2) + (n3 % 9 - 4) * z.2.2, z.2.2 * (n2 % (10 : Int) ^ (6 : Int).toNat + 2))] ++ A2), (x8, A3 ++ A4), (x10, F ++ [z]), (r0, List.replicate (rff F).length (t0, 0, 1)), (r1, List.replicate (rff F).length (t1, 1, 1)), (r2, List.replicate (rff F).length (t2, (n2 % (10 : Int) ^ (6 : Int).toNat + 2), 7))] _ (e5.trans J24_) vs3 ?_⟩
 have rl : ∀ x : Fr, (List.replicate (rff F).length x).length ≤ 20 := fun x => by rw [List.length_replicate]; omega
 intro w hw
 simp only [List.mem_cons, List.not_mem_nil, or_false] at hw
 rcases hw with rfl | rfl | rfl | rfl | rfl | rfl | rfl | rfl
 ·exact ⟨J24_ _ _ (e5 _ _ hpl), hFe, by show F.length ≤ 20; omega⟩
 ·exact ⟨J24_ _ _ hsc5, hGe, by show G.length ≤ 20; omega⟩
 ·refine ⟨by rw [vx5, Qb6, Qb6]; rfl, ((hFe.sub sA1).app hSp).app (hFe.sub sA2), ?_⟩
  show (A1 ++ _ ++ A2).length ≤ 20
  rw [List.length_append, List.length_append]
  show A1.length + 1 + A2.length ≤ 20
  omega
 ·refine ⟨by rw [vx8, Qb6], (hFe.sub sA3).app (hFe.sub sA4), ?_⟩
  show (A3 ++ A4).length ≤ 20
  rw [List.length_append]
  omega
 ·refine ⟨by rw [vx10, Qb6]; rfl, hFe.app (hFe.sub fun w hw => by rw [List.mem_singleton.mp hw]; exact zm), ?_⟩
  show (F ++ [z]).length ≤ 20
  rw [List.length_append]
  show F.length + 1 ≤ 20
  omega
 ·exact ⟨vr0, Fok.one vt0 (Int.le_refl 1) bz bo _, rl _⟩
 ·exact ⟨vr1, Fok.one vt1 (Int.le_refl 1) bo bo _, rl _⟩
 ·exact ⟨vr2, Fok.one vt2 (by decide) (by1.mono (by decide)) (show (7 : Int).natAbs < 2 ^ 4100 from Nat.lt_of_lt_of_le (by decide : 7 < 2 ^ 3) (Nat.pow_le_pow_right (by decide) (by decide))) _, rl _⟩
theorem rff_pl (F : List Fr) : ∀ z ∈ rff F, eqPl z = true := by
 intro z hz
 obtain ⟨y, _, rfl⟩ := List.mem_map.mp hz
 rfl
def spGa : Sp := fun vs H Q _ => ∃ (fl l pl : Addr) (fs : List Str) (R : List Rw) (s : Str) (F : List Fr) (gs es : List Str), vs = [.ref fl, .ref l, .str s, .ref pl] ∧ H fl = some (.lst (fs.map V.str)) ∧ H l = some (.lst (rfw R)) ∧ RX H gs es R ∧ Rb R ∧ fs.length ≤ 6 ∧ H pl = some (.lst (rff F)) ∧ Fok H F ∧ F.length ≤ 20 ∧ ∀ H', Same H H' → Q (.bl true) H'
def spAl (K : Q4) : Sp := fun vs H Q _ => ∃ (a fl sl : Addr) (ns : List Int) (fs ss : List Str), vs = [.ref a, .ref fl, .ref sl] ∧ SqL K H a (ns.map V.int) ∧ ns.length ≤ 63 ∧ (∀ w ∈ ns, PySem.Builtin.Int.intBits w ≤ 2 ^ 20) ∧ Pp H fl sl fs ss ∧
 ∀ (p : Addr) (R : List Rw) H', Same H H' → H' p = some (.lst (rfw R)) → RW H' fs (fs ++ ss) R → R.length ≤ 40 → Q (.ref p) H'
theorem scaf0 : FnScope ["_law_firms", "_law_rows", "_law_holder", "_law_parts", "_law_handed", "_law_found"] ["_law_firms", "_law_rows", "_law_holder", "_law_parts"] (defScope saf0) := fsc
theorem okaf0 (D : Def K mg "_law_good_asked" saf0 .none) (cbn0 : Cal P w K mg base CX0 true 7 "parts_good" ["firms", "rows", "holder", "parts"] [] spRgt) (can0 : Cal P w K mg base CX0 true 2 "_law_right" ["_law_firms", "_law_rows", "_law_holder", "_law_parts"] [] spRgt) (z_list : mg "list" = none) (z_isinstance : mg "isinstance" = none) (z_bool : mg "bool" = none) : Cal P w K mg base CX0 true 8 "_law_good_asked" ["_law_firms", "_law_rows", "_law_holder", "_law_parts"] [] spGa := by
 obtain ⟨f, fd, F, hm⟩ := D
 obtain ⟨fbn0, fdbn0, dbn0, Gbn0, mbn0, kbn0, bbn0, vbn0, bbn01⟩ := cbn0
 obtain ⟨fan0, fdan0, dan0, Gan0, man0, kan0, ban0, van0, ban01⟩ := can0
 refine ⟨f, fd, _, F.ok scaf0 (fun vs H Q E h => ?_) (fun cdv A outer s H vs Q E hr h => ?_), hm, F.kp, (F.b4), .nil, F.b4⟩
 ·obtain ⟨fl, l, pl, fs, R, s, F, gs, es, rfl, hfl, hl, hR, hB, h6, hpl, hF, h9, q⟩ := h
  rfl
 obtain ⟨fl, l, pl, fs, R, s, F, gs, es, rfl, hfl, hl, hR, hB, h6, hpl, hF, h9, q⟩ := h
 have nd := scaf0.nd
 refine ⟨_, (Qae (Qak (i := 4) nd rfl (Or.inl rfl) (Qba (Qaa (Qbg Qa5 rfl z_list Qb8 (Qaa (pv 0) Qad)) (Qaa (Qbg Qa5 rfl z_list Qb8 (Qaa (pv 1) Qad)) (Qaa (Qbg Qa5 rfl z_list Qb8 (Qaa (pv 3) Qad)) Qad)))))
  (Qae (Qak (i := 5) nd rfl (Or.inl rfl) (Qah Gbn0 (hr.mono (by decide)) rfl mbn0 kbn0 bbn0 Paired.nil pass0 (Qaa (Qam Qai (pv 4) Qaf (fun _ _ => rfl)) (Qaa (Qam Qai (pv 4) Qaf (fun _ _ => rfl)) (Qaa (pv 2) (Qaa (Qam Qai (pv 4) Qaf (fun _ _ => rfl)) Qad))))))
  (Qae (Qbq (PW.pt (Qfq (Qap (Qgv hr) (Qam Qai (pv 4) Qaf (fun _ _ => rfl)) (pv 0) (nomark _)) (Qfq (Qap (Qgv hr) (Qam Qai (pv 4) Qaf (fun _ _ => rfl)) (pv 1) (nomark _)) (Qe1 (Qap (Qgv hr) (Qam Qai (pv 4) Qaf (fun _ _ => rfl)) (pv 3) (nomark _)))))) (Qag (Qat Qc3)) Qay)
  (Qag (Qat (Qky (Qao Qf4 rfl z_isinstance Qce (Qaa (pv 5) (Qaa (Qfr (v := .ty "bool") rfl z_bool Qjc rfl) Qad))) (Qhz (Qcl Qb7 (pv 5) (Qah Gan0 (hr.mono (by decide)) rfl man0 kan0 ban0 Paired.nil pass0 (Qaa (pv 0) (Qaa (pv 1) (Qaa (pv 2) (Qaa (pv 3) Qad))))) (nomark _))))))))), ?_⟩
 have hline : 10 ^ 6 ≤ sizeLine := by decide
 refine ⟨_, rfl, fl, _, rfl, .inl (SqL.of hfl), fun c1 hc1 => ?_⟩
 have g1 := Qac (o := .lst (fs.map V.str)) hc1
 have vc1 : upd H c1 (.lst (fs.map V.str)) c1 = some (.lst (fs.map V.str)) := Qab
 have J1_ := (Qas H).trans g1
 generalize upd H c1 (.lst (fs.map V.str)) = J1 at g1 vc1 J1_ ⊢
 refine ⟨_, rfl, l, _, rfl, .inl (SqL.of (J1_ _ _ hl)), fun c2 hc2 => ?_⟩
 have g2 := Qac (o := .lst (rfw R)) hc2
 have vc2 : upd J1 c2 (.lst (rfw R)) c2 = some (.lst (rfw R)) := Qab
 have J2_ := J1_.trans g2
 have vc1 := g2 _ _ vc1
 generalize upd J1 c2 (.lst (rfw R)) = J2 at g2 vc2 J2_ vc1 ⊢
 refine ⟨_, rfl, pl, _, rfl, .inl (SqL.of (J2_ _ _ hpl)), fun c3 hc3 => ?_⟩
 have g3 := Qac (o := .lst (rff F)) hc3
 have vc3 : upd J2 c3 (.lst (rff F)) c3 = some (.lst (rff F)) := Qab
 have J3_ := J2_.trans g3
 have vc1 := g3 _ _ vc1
 have vc2 := g3 _ _ vc2
 generalize upd J2 c3 (.lst (rff F)) = J3 at g3 vc3 J3_ vc1 vc2 ⊢
 refine ⟨(by show 3 ≤ sizeLine; decide), fun hd hhd => ?_⟩
 have g4 := Qac (o := .lst [.ref c1, .ref c2, .ref c3]) hhd
 have vhd : upd J3 hd (.lst [.ref c1, .ref c2, .ref c3]) hd = some (.lst [.ref c1, .ref c2, .ref c3]) := Qab
 have J4_ := J3_.trans g4
 have vc1 := g4 _ _ vc1
 have vc2 := g4 _ _ vc2
 have vc3 := g4 _ _ vc3
 generalize upd J3 hd (.lst [.ref c1, .ref c2, .ref c3]) = J4 at g4 vhd J4_ vc1 vc2 vc3 ⊢
 have hR4 := hR.same J4_
 have hF4 := hF.same J4_
 refine ⟨_, rfl, .inl ⟨hd, _, 0, _, rfl, rfl, SqL.of vhd, rfl, _, rfl, .inl ⟨hd, _, 1, _, rfl, rfl, SqL.of vhd, rfl, _, rfl, _, rfl, .inl ⟨hd, _, 2, _, rfl, rfl, SqL.of vhd, rfl, c1, c2, c3, fs, R, s, F, gs, es, rfl, vc1, vc2, hR4, hB, h6, vc3, hF4.1, hF4.2, h9, fun b1 H5 e5 hb1 => ?_⟩⟩⟩⟩
 have e05 := J4_.trans e5
 refine ⟨_, rfl, .inl ⟨hd, _, 0, _, rfl, rfl, SqL.of (e5 _ _ vhd), rfl, _, rfl, c1, fl, _, _, rfl, rfl, SqL.of (e5 _ _ vc1), SqL.of (e05 _ _ hfl), EqLs.refl (Qlp _), _, rfl, iteF ?_⟩⟩
 refine ⟨_, rfl, .inl ⟨hd, _, 1, _, rfl, rfl, SqL.of (e5 _ _ vhd), rfl, _, rfl, c2, l, _, _, rfl, rfl, SqL.of (e5 _ _ vc2), SqL.of (e05 _ _ hl), EqLs.refl (rfw_pl _), _, rfl, iteF ?_⟩⟩
 refine ⟨_, rfl, .inl ⟨hd, _, 2, _, rfl, rfl, SqL.of (e5 _ _ vhd), rfl, _, rfl, c3, pl, _, _, rfl, rfl, SqL.of (e5 _ _ vc3), SqL.of (e05 _ _ hpl), EqLs.refl (rff_pl _), _, rfl, iteF ?_⟩⟩
 refine ⟨_, rfl, _, _, _, _, _, rfl, .of (.bl _), rfl, rfl, true, rfl, iteT ?_⟩
 refine ⟨_, rfl, _, rfl, _, rfl, _, rfl, _, rfl, fl, l, pl, fs, R, s, F, gs, es, rfl, e05 _ _ hfl, e05 _ _ hl, hR.same e05, hB, h6, e05 _ _ hpl, (hF.same e05).1, hF.2, h9, fun b2 H6 e6 hb2 => ⟨rfl, ?_⟩⟩
 have eb : b1 = b2 := by
  rw [Bool.eq_iff_iff]
  exact hb1.trans hb2.symm
 rw [eb, decide_eq_true rfl]
 exact q _ (e05.trans e6)
theorem scab0 : FnScope ["_law_script", "_law_firms", "_law_strangers", "_law_rows"] ["_law_script", "_law_firms", "_law_strangers"] (defScope sab0) := fsc
theorem okab0 (D : Def K mg "_law_alone" sab0 .none) (cae0 : Cal P w K mg base CX0 true 3 "_law_good" ["_law_script", "_law_firms", "_law_strangers"] [] (spGood K)) (cad0 : Cal P w K mg base CX0 true 1 "_law_cell_at" ["_law_script", "_law_k"] [] (spCell K)) : Cal P w K mg base CX0 true 4 "_law_alone" ["_law_script", "_law_firms", "_law_strangers"] [] (spAl K) := by
 obtain ⟨f, fd, F, hm⟩ := D
 obtain ⟨fae0, fdae0, dae0, Gae0, mae0, kae0, bae0, vae0, bae01⟩ := cae0
 obtain ⟨fad0, fdad0, dad0, Gad0, mad0, kad0, bad0, vad0, bad01⟩ := cad0
 refine ⟨f, fd, _, F.ok scab0 (fun vs H Q E h => ?_) (fun cdv A outer s H vs Q E hr h => ?_), hm, F.kp, (F.b3), .nil, F.b3⟩
 ·obtain ⟨a, fl, sl, ns, fs, ss, rfl, hS, hlen, hb, P, q⟩ := h
  rfl
 obtain ⟨a, fl, sl, ns, fs, ss, rfl, hS, hlen, hb, P, q⟩ := h
 have nd := scab0.nd
 refine ⟨_, (Qae (Qak (i := 3) nd rfl (Or.inl rfl) (Qah Gae0 (hr.mono (by decide)) rfl mae0 kae0 bae0 Paired.nil pass0 (Qaa (pv 0) (Qaa (pv 1) (Qaa (pv 2) Qad)))))
  (Qae (Qbq (Qap Qb7 (Qan Qa8 (Qah Gad0 (hr.mono (by decide)) rfl mad0 kad0 bad0 Paired.nil pass0 (Qaa (pv 0) (Qaa Qaf Qad))) Qaf) Qaf (nomark _)) (Qag (Qco [1] (i := 3) nd rfl (Or.inl rfl) rfl (LcOk.free ["_law_firms"] rfl rfl (List.forall_mem_cons.mpr ⟨rfl, (fun _ h => nomatch h)⟩) (by decide+kernel) rfl (by decide+kernel) rfl (by decide+kernel) (show (["_law_row", "_law_firms"] : List Str).Nodup from by decide+kernel) (List.forall_mem_cons.mpr ⟨⟨_, rfl, rfl, rfl, by decide+kernel⟩, (fun _ h => nomatch h)⟩)) (Qax (pv 3)) (fun C s2 H2 fp xe => (Qap Qha (Qam Qa0 (pv 0) Qaf (fun _ _ => rfl)) (pv 1) (by with_unfolding_all rfl))) (fun C s2 H2 fp xe => (pv 0)))) Qay)
  (Qag (Qat (pv 3))))), ?_⟩
 have hline : 10 ^ 6 ≤ sizeLine := by decide
 refine ⟨_, rfl, _, rfl, _, rfl, a, fl, sl, ns, fs, ss, rfl, hS, hlen, hb, P, fun p R H1 e1 _ hp hR hRk hRl => ?_⟩
 refine ⟨_, rfl, a, ns, 2, rfl, e1.seq hS, _, _, rfl, rfl, (by show (0 : Int) < 4; decide), rfl, _, rfl, ?_⟩
 refine dec2 (fun h => ?_) (fun h => ⟨_, rfl, q p R _ e1 hp hR hRl⟩)
 refine ⟨_, rfl, p, rfl, ⟨_, SqL.of hp⟩, ?_⟩
 refine Qbj (xs := rfw R) (fun j ys H5 => ys = rfw ((R.take j).filter fun z => decide (z.2.1 ∈ fs)) ∧ H5 = H1) ⟨rfl, rfl⟩ (by rw [Qbc]; omega) ?_ ?_ ?_
 ·rintro j ys H5 hj ⟨rfl, rfl⟩
  refine ⟨SqL.of hp, ?_⟩
  rw [Qbc]
  have h1 := List.length_filter_le (fun z : Rw => decide (z.2.1 ∈ fs)) (R.take j)
  rw [List.length_take] at h1
  omega
 ·rintro j x ys H5 hx ⟨rfl, rfl⟩
  obtain ⟨y, hy, rfl⟩ := Qcv hx
  have hTy := SqT.of (K := K) (hR y (List.mem_of_getElem? hy)).1
  refine ⟨_, rfl, .inr (.inl ⟨y.1, _, 0, _, rfl, rfl, hTy, rfl, _, rfl, fl, _, rfl, .inl (SqL.of (e1 _ _ P.f)), rfl, Qb2 _, _, rfl, ?_⟩)⟩
  rw [Qb3]
  refine dec2 (fun h2 => ⟨_, rfl, ?_, rfl⟩) (fun h2 => ⟨?_, rfl⟩)
  ·rw [Qaw hy, List.filter_append, List.filter_cons_of_pos (by rw [decide_eq_true h2]), Qek]
   rfl
  ·rw [Qaw hy, List.filter_append, List.filter_cons_of_neg (by rw [decide_eq_false h2]; decide)]
   simp
 rintro ys H5 ⟨rfl, rfl⟩ k1 hk1
 rw [Qbc, List.take_length]
 have s1 := Qac (o := .lst (rfw (R.filter fun z => decide (z.2.1 ∈ fs)))) hk1
 refine ⟨_, rfl, q k1 (R.filter fun z => decide (z.2.1 ∈ fs)) _ (e1.trans s1) Qab (fun z hz => (hR.same s1) z (List.mem_filter.mp hz).1) ?_⟩
 have h1 := List.length_filter_le (fun z : Rw => decide (z.2.1 ∈ fs)) R
 omega
theorem join3 {α β γ : Type} {G : Prop} (F P : α → β → γ → Prop) (hm : (∀ x y z, F x y z → P x y z) → G) (hr : ∀ x y z, F x y z → P x y z) : G := hm hr
theorem join6 {α β γ : Type} {G : Prop} (F : α → β → γ → Prop) (P : α → β → γ → Option V → Option V → Option V → Prop) (hm : (∀ x y z u v w, F x y z → P x y z u v w) → G) (hr : ∀ x y z u v w, F x y z → P x y z u v w) : G := hm hr
theorem Qi4 {α : Type} (g : α → V) (L : List α) (lo hi : Option Int) : ∃ G : List α, cutV (L.map g) lo hi = G.map g ∧ (∀ z ∈ G, z ∈ L) ∧ G.length ≤ L.length := by
 refine ⟨(L.drop (HT.sIx (L.map g).length 0 lo)).take (HT.sIx (L.map g).length (L.map g).length hi - HT.sIx (L.map g).length 0 lo), ?_, fun z hz => List.mem_of_mem_drop (List.mem_of_mem_take hz), ?_⟩
 ·unfold cutV
  generalize (L.map g).length = n
  rw [List.map_take, List.map_drop]
 ·rw [List.length_take, List.length_drop]
  omega
theorem Qi5 (W : List Tl) (lo hi : Option Int) : ∃ G : List Tl, cutV (rft W) lo hi = rft G ∧ (∀ z ∈ G, z ∈ W) ∧ G.length ≤ W.length := Qi4 _ W lo hi
theorem cut_fs (W : List Lf) (lo hi : Option Int) : ∃ G : List Lf, cutV (rfs W) lo hi = rfs G ∧ (∀ z ∈ G, z ∈ W) ∧ G.length ≤ W.length := Qi4 _ W lo hi
theorem rfs_at {F : List Lf} {i : Nat} {x : V} (h : (rfs F)[i]? = some x) : ∃ z, F[i]? = some z ∧ x = .ref z.1 := by
 unfold rfs at h
 rw [List.getElem?_map] at h
 cases e : F[i]? with
 | none => rw [e] at h; cases h
 | some z => rw [e] at h; exact ⟨z, rfl, (Option.some.inj h).symm⟩
theorem Qm0 {fs : List Str} (h : 1 ≤ fs.length) : ∃ f, atI (fs.map V.str) (-1) = some (.str f) := by
 obtain ⟨f, hf⟩ := Qa4 (l := fs) (k := fs.length - 1) (by omega)
 refine ⟨f, ?_⟩
 unfold atI ixN
 rw [if_neg (by decide), if_pos (by rw [List.length_map]; omega), List.length_map, show (-1 + (fs.length : Int)).toNat = fs.length - 1 by omega]
 show (fs.map V.str)[fs.length - 1]? = _
 rw [List.getElem?_map, hf]
 rfl
theorem Qlm {fs : List Str} {R : List Rw} {W : List Tl} (T : Tb fs R) (h : Vlst fs R W) : ∀ w ∈ W, Fp w.2.2.2 ∧ w.2.2.2.length = fs.length := fun w hw => by
 have hpo := Qdg T
 have v := h w hw
 have ll : (fs.map (dueR fs R)).length = fs.length := List.length_map ..
 refine ⟨fun z hz => ?_, ?_⟩
 ·have : z.2 ∈ w.2.2.2.map (·.2) := List.mem_map.mpr ⟨z, hz, rfl⟩
  rw [v] at this
  obtain ⟨y, hy, e⟩ := List.mem_map.mp this
  obtain ⟨k, hk, ek⟩ := List.getElem_of_mem hy
  obtain ⟨a1, a2, a3, a4, _⟩ := hpo.ato k y (by rw [List.getElem?_eq_getElem hk, ek])
  obtain ⟨b1, b2, b3, _, _⟩ := Qb9 (t := dot (hol R fs w.2.1) y.2) a1
  rw [e] at b1 b2 b3
  have h6 := T.l6
  exact ⟨b1, Nat.lt_of_le_of_lt b3 ((Qlc (Qip T w.2.1) a4).mono (by rw [Qdv]; omega)), Nat.lt_of_le_of_lt b2 (a2.mono (by decide))⟩
 ·have := congrArg List.length v
  rw [List.length_map, List.length_map, hpo.len, ll] at this
  exact this
theorem Qln {fs : List Str} {R : List Rw} {W : List Tl} (T : Tb fs R) (h : Vfps fs R W) : ∀ w ∈ W, Fp w.2.2.2 ∧ w.2.2.2.length = fs.length := fun w hw => by
 have hpo := Qdg T
 have ll : (fs.map (dueR fs R)).length = fs.length := List.length_map ..
 obtain ⟨i, hi, ei⟩ := List.getElem_of_mem hw
 have v := h.2 i w (by rw [List.getElem?_eq_getElem hi, ei])
 obtain ⟨yi, hyi⟩ := Qa4 (l := pap (fs.map (dueR fs R))) (k := i) (by rw [hpo.len, ll, ← h.1]; exact hi)
 refine ⟨fun z hz => ?_, ?_⟩
 ·have : z.2 ∈ w.2.2.2.map (·.2) := List.mem_map.mpr ⟨z, hz, rfl⟩
  rw [v] at this
  obtain ⟨c, hc, e⟩ := List.mem_map.mp this
  unfold clm at hc e
  obtain ⟨y, hy, ey⟩ := List.mem_map.mp hc
  obtain ⟨k, hk, ek⟩ := List.getElem_of_mem hy
  obtain ⟨o1, o2, o3, _⟩ := Qkz hpo (Qeb T.nd T.s1 T.rk) hyi (show (pap (fs.map (dueR fs R)))[k]? = some y by rw [List.getElem?_eq_getElem hk, ek])
  rw [List.getD_eq_getElem?_getD, List.getElem?_map, hyi, ← ey] at e
  have e : ovr (frc (N45.gt y.2 i) y.1) (frc (N45.gt yi.2 i) yi.1) = z.2 := e
  rw [e] at o1 o2 o3
  exact ⟨o1, o2, o3⟩
 ·have := congrArg List.length v
  unfold clm at this
  rw [List.length_map, List.length_map, List.length_map, hpo.len, ll] at this
  exact this
theorem ifT {b : Bool} {A B : Prop} (h : b = true) (k : A) : if b = true then A else B := by
 rw [if_pos h]
 exact k
theorem ifF {b : Bool} {A B : Prop} (h : b = false) (k : B) : if b = true then A else B := by
 rw [h]
 exact k
theorem Qg2 {i : Nat} {x : V} {σ : St} {H : Hp} {Q : St → Hp → Prop} (h : Q (σ.set i (some x)) H) : gName i x σ H Q := h
def Wok (fs : List Str) (W : List Tl) : Prop := ∀ w ∈ W, Fp w.2.2.2 ∧ w.2.2.2.length = fs.length
theorem Qhr (n : Nat) (p : Addr) (x : Int) (h : N45.Bt 4000 x) : Fp (List.replicate n (p, x, 1)) ∧ (List.replicate n ((p, x, 1) : Fr)).length = n := ⟨fun z hz => by rw [(List.mem_replicate.mp hz).2]; exact ⟨Int.le_refl 1, h, Qcg.mono (by decide)⟩, List.length_replicate⟩
def FX9 : List Str := ["nobody", "noone", "none", "other", "third", "fourth", "fifth", "sixth", "seventh"]
theorem fx_nd : FX9.Nodup := by decide+kernel
theorem Qmj {A : List Str} (h : A.length ≤ 8) : ∃ nb r, FX9.filter (fun x => !decide (x ∈ A)) = nb :: r ∧ nb ∉ A := by
 cases e : FX9.filter (fun x => !decide (x ∈ A)) with
 | nil =>
   have hs : ∀ x ∈ FX9, x ∈ A := fun x hx => by
    have := List.filter_eq_nil_iff.mp e x hx
    simpa using this
   have := Qbv FX9 A fx_nd hs
   have l9 : FX9.length = 9 := rfl
   omega
 | cons nb r =>
   have hm : nb ∈ FX9.filter (fun x => !decide (x ∈ A)) := by rw [e]; exact .head _
   have := (List.mem_filter.mp hm).2
   exact ⟨nb, r, rfl, by simpa using this⟩
theorem scbc0 : FnScope ["_law_script", "_law_people_here", "_law_firms", "_law_strangers", "_law_rows", "_law_fixed", "_law_lists_here", "_law_cell", "_law_asked", "_law_turn", "_law_many", "_law_paper", "_law_last", "_law_own", "_law_name", "_law_parts", "_law_some"] ["_law_script"] (defScope sbc0) := fsc
theorem okbc0 {f : Addr} {fd : FuncData} (F : FunD K "law" "law" sbc0 f fd .none) (cam0 : Cal P w K mg base CX0 true 3 "_law_people" ["_law_script"] [] (spPeople K)) (cab0 : Cal P w K mg base CX0 true 4 "_law_alone" ["_law_script", "_law_firms", "_law_strangers"] [] (spAl K)) (cak0 : Cal P w K mg base CX0 true 1 "_law_out" ["_law_firms", "_law_rows"] [] spOt) (cbl0 : Cal P w K mg base CX0 true 5 "paper_of" ["square"] [] spPapN) (cbq0 : Cal P w K mg base CX0 true 2 "square_of" ["firms", "rows"] [] spSq) (cbb0 : Cal P w K mg base CX0 true 7 "last_parts" ["firms", "rows"] [] (spPts Vlst)) (caw0 : Cal P w K mg base CX0 true 7 "firm_parts" ["firms", "rows"] [] (spPts Vfps)) (cal0 : Cal P w K mg base CX0 true 2 "_law_paper_holds" ["_law_firms", "_law_rows", "_law_paper"] [] spPh) (cac0 : Cal P w K mg base CX0 true 2 "_law_by_paper" ["_law_firms", "_law_rows", "_law_paper", "_law_last", "_law_own"] [] spBp) (cad0 : Cal P w K mg base CX0 true 1 "_law_cell_at" ["_law_script", "_law_k"] [] (spCell K)) (cai0 : Cal P w K mg base CX0 true 1 "_law_mix" ["_law_cell", "_law_by"] [] spMix) (cah0 : Cal P w K mg base CX0 true 3 "_law_lists" ["_law_parts", "_law_cell"] [] spLs) (caf0 : Cal P w K mg base CX0 true 8 "_law_good_asked" ["_law_firms", "_law_rows", "_law_holder", "_law_parts"] [] spGa) (z_len : mg "len" = none) (z_list : mg "list" = none) : FnOk P w K mg base CX0 true 11 f fd ["_law_script"] (spLaw K) := by
 obtain ⟨fam0, fdam0, dam0, Gam0, mam0, kam0, bam0, vam0, bam01⟩ := cam0
 obtain ⟨fab0, fdab0, dab0, Gab0, mab0, kab0, bab0, vab0, bab01⟩ := cab0
 obtain ⟨fak0, fdak0, dak0, Gak0, mak0, kak0, bak0, vak0, bak01⟩ := cak0
 obtain ⟨fbl0, fdbl0, dbl0, Gbl0, mbl0, kbl0, bbl0, vbl0, bbl01⟩ := cbl0
 obtain ⟨fbq0, fdbq0, dbq0, Gbq0, mbq0, kbq0, bbq0, vbq0, bbq01⟩ := cbq0
 obtain ⟨fbb0, fdbb0, dbb0, Gbb0, mbb0, kbb0, bbb0, vbb0, bbb01⟩ := cbb0
 obtain ⟨faw0, fdaw0, daw0, Gaw0, maw0, kaw0, baw0, vaw0, baw01⟩ := caw0
 obtain ⟨fal0, fdal0, dal0, Gal0, mal0, kal0, bal0, val0, bal01⟩ := cal0
 obtain ⟨fac0, fdac0, dac0, Gac0, mac0, kac0, bac0, vac0, bac01⟩ := cac0
 obtain ⟨fad0, fdad0, dad0, Gad0, mad0, kad0, bad0, vad0, bad01⟩ := cad0
 obtain ⟨fai0, fdai0, dai0, Gai0, mai0, kai0, bai0, vai0, bai01⟩ := cai0
 obtain ⟨fah0, fdah0, dah0, Gah0, mah0, kah0, bah0, vah0, bah01⟩ := cah0
 obtain ⟨faf0, fdaf0, daf0, Gaf0, maf0, kaf0, baf0, vaf0, baf01⟩ := caf0
 refine F.ok scbc0 (fun vs H Q E h => ?_) (fun cdv A outer s H vs Q E hr h => ?_)
 ·obtain ⟨a, ns, rfl, hS, hlen, hb, q⟩ := h
  rfl
 obtain ⟨a, ns, rfl, hS, hlen, hb, q⟩ := h
 have nd := scbc0.nd
 refine ⟨_, (Qae (Qak (i := 1) nd rfl (Or.inl rfl) (Qah Gam0 (hr.mono (by decide)) rfl mam0 kam0 bam0 Paired.nil pass0 (Qaa (pv 0) Qad)))
  (Qae (Qak (i := 2) nd rfl (Or.inr rfl) (Qam Qai (pv 1) Qaf (fun _ _ => rfl)))
  (Qae (Qak (i := 3) nd rfl (Or.inr rfl) (Qam Qai (pv 1) Qaf (fun _ _ => rfl)))
  (Qae (Qak (i := 4) nd rfl (Or.inl rfl) (Qah Gab0 (hr.mono (by decide)) rfl mab0 kab0 bab0 Paired.nil pass0 (Qaa (pv 0) (Qaa (pv 2) (Qaa (pv 3) Qad)))))
  (Qae (Qak (i := 5) nd rfl (Or.inl rfl) (Qba (Qaa Qcf (Qaa Qcf (Qaa Qcf (Qaa Qcf (Qaa Qcf (Qaa Qcf (Qaa Qcf (Qaa Qcf (Qaa Qcf Qad)))))))))))
  (Qae (Qak (i := 6) nd rfl (Or.inl rfl) (Qba (Qaa (Qbm (Qaa (Qam Qai (Qck [2, 3] rfl (LcOk.free ["_law_strangers", "_law_firms"] rfl rfl (List.forall_mem_cons.mpr ⟨rfl, (List.forall_mem_cons.mpr ⟨rfl, (fun _ h => nomatch h)⟩)⟩) (by decide+kernel) rfl (by decide+kernel) rfl (by decide+kernel) (show (["_law_name", "_law_firms", "_law_strangers"] : List Str).Nodup from by decide+kernel) (List.forall_mem_cons.mpr ⟨⟨_, rfl, rfl, rfl, by decide+kernel⟩, (List.forall_mem_cons.mpr ⟨⟨_, rfl, rfl, rfl, by decide+kernel⟩, (fun _ h => nomatch h)⟩)⟩)) (Qax (pv 5)) (fun C s2 H2 fp xe => (Qap Qcc (pv 0) (Qan Qh1 (pv 1) (pv 2)) (by with_unfolding_all rfl))) (fun C s2 H2 fp xe => (pv 0))) Qaf (fun _ _ => rfl)) (Qaa (Qan Qe3 (Qba (Qaa (Qbm (Qaa Qaf (Qaa Qaf Qad))) Qad)) (Qao Qaj rfl z_len Qa1 (Qaa (pv 2) Qad))) Qad))) Qad)))
  (Qae (Qbq (Qdh (Qah Gak0 (hr.mono (by decide)) rfl mak0 kak0 bak0 Paired.nil pass0 (Qaa (pv 2) (Qaa (pv 4) Qad)))) (Qae (Qak (i := 11) nd rfl (Or.inl rfl) (Qah Gbl0 (hr.mono (by decide)) rfl mbl0 kbl0 bbl0 Paired.nil pass0 (Qaa (Qah Gbq0 (hr.mono (by decide)) rfl mbq0 kbq0 bbq0 Paired.nil pass0 (Qaa (Qbg Qa5 rfl z_list Qb8 (Qaa (pv 2) Qad)) (Qaa (Qbg Qa5 rfl z_list Qb8 (Qaa (pv 4) Qad)) Qad))) Qad)))
  (Qae (Qak (i := 12) nd rfl (Or.inl rfl) (Qah Gbb0 (hr.mono (by decide)) rfl mbb0 kbb0 bbb0 Paired.nil pass0 (Qaa (Qbg Qa5 rfl z_list Qb8 (Qaa (pv 2) Qad)) (Qaa (Qbg Qa5 rfl z_list Qb8 (Qaa (pv 4) Qad)) Qad))))
  (Qae (Qak (i := 13) nd rfl (Or.inl rfl) (Qah Gaw0 (hr.mono (by decide)) rfl maw0 kaw0 baw0 Paired.nil pass0 (Qaa (Qbg Qa5 rfl z_list Qb8 (Qaa (pv 2) Qad)) (Qaa (Qbg Qa5 rfl z_list Qb8 (Qaa (pv 4) Qad)) Qad))))
  (Qae (Qbq (PW.pt (Qfq (Qgn (Qdh (Qah Gal0 (hr.mono (by decide)) rfl mal0 kal0 bal0 Paired.nil pass0 (Qaa (pv 2) (Qaa (pv 4) (Qaa (pv 11) Qad)))))) (Qe1 (Qgn (Qdh (Qah Gac0 (hr.mono (by decide)) rfl mac0 kac0 bac0 Paired.nil pass0 (Qaa (pv 2) (Qaa (pv 4) (Qaa (pv 11) (Qaa (pv 12) (Qaa (pv 13) Qad))))))))))) (Qag (Qat Qc3)) Qay)
  (Qag (Qak (i := 6) nd rfl (Or.inl rfl) (Qan Qb1 (Qan Qb1 (pv 6) (pv 12)) (pv 13)))))))) (Qag (Qby (Qc7 PySem.F.plainAttrs_list PySem.F.slot_list_append PySem.F.type_list_append Qbs (pv 6) (Qaa (Qbm (Qaa (Qam Qai (pv 2) Qaf (fun _ _ => rfl)) (Qaa (Qan Qe3 (Qba (Qaa (Qbm (Qaa Qaf (Qaa Qaf Qad))) Qad)) (Qao Qaj rfl z_len Qa1 (Qaa (pv 2) Qad))) Qad))) Qad)))))
  (Qae (Qak (i := 7) nd rfl (Or.inl rfl) (Qah Gad0 (hr.mono (by decide)) rfl mad0 kad0 bad0 Paired.nil pass0 (Qaa (pv 0) (Qaa Qaf Qad))))
  (Qae (Qak (i := 8) nd rfl (Or.inl rfl) (pv 4))
  (Qae (Qbq (Qap Qb7 (Qan Qa8 (pv 7) Qaf) Qaf (nomark _)) (Qag (Qak (i := 8) nd rfl (Or.inl rfl) (Qan Qb1 (Qan Qb1 (Qa3 Qbf (pv 4) Qbl (Qa9 Qaf)) (Qba (Qaa (Qbm (Qaa (Qam Qai (pv 2) Qaf (fun _ _ => rfl)) (Qaa (Qam Qai (Qam Qai (pv 6) Qaf (fun _ _ => rfl)) Qaf (fun _ _ => rfl)) (Qaa Qaf Qad)))) (Qaa (Qbm (Qaa (Qam Qai (pv 2) Qaf (fun _ _ => rfl)) (Qaa (Qam Qai (pv 2) (Qjw Qga Qaf) (fun _ _ => rfl)) (Qaa Qaf Qad)))) Qad)))) (Qa3 Qbf (pv 4) (Qa9 Qaf) Qbl)))) Qay)
  (Qae (Qak (i := 9) nd rfl (Or.inl rfl) (Qan Qa8 (Qah Gai0 (hr.mono (by decide)) rfl mai0 kai0 bai0 Paired.nil pass0 (Qaa (pv 7) (Qaa Qaf Qad))) (Qao Qaj rfl z_len Qa1 (Qaa (pv 6) Qad))))
  (Qae (Qak (i := 10) nd rfl (Or.inl rfl) Qaf)
  (Qae (Qbe PassesOwn.never rfl (Qax (Qa3 Qbf (Qan Qb1 (Qa3 Qbf (pv 6) (Qa9 (pv 9)) Qbl) (Qa3 Qbf (pv 6) Qbl (Qa9 (pv 9)))) Qbl (Qa9 Qaf))) (Qc6 rfl (Qa2 (Qau (i := 14) nd rfl (Or.inl rfl)) (Qa2 (Qau (i := 15) nd rfl (Or.inl rfl)) Qcb))) (Qae (Qbe PassesOwn.never rfl (Qax (Qa3 Qbf (Qah Gah0 (hr.mono (by decide)) rfl mah0 kah0 bah0 Paired.nil pass0 (Qaa (pv 15) (Qaa (pv 7) Qad))) Qbl (Qa9 (pv 10)))) (Qau (i := 16) nd rfl (Or.inl rfl)) (Qag (Qbq (Qgn (Qdh (Qah Gaf0 (hr.mono (by decide)) rfl maf0 kaf0 baf0 Paired.nil pass0 (Qaa (pv 2) (Qaa (pv 8) (Qaa (pv 14) (Qaa (pv 16) Qad))))))) (Qag (Qat Qc3)) Qay)))
  (Qag (Qak (i := 10) nd rfl (Or.inl rfl) Qaf))))
  (Qag (Qat Qc3))))))))))))))), ?_⟩
 have hline : 10 ^ 6 ≤ sizeLine := by decide
 rw [show ∀ x0 : V, L2.start ["_law_script", "_law_people_here", "_law_firms", "_law_strangers", "_law_rows", "_law_fixed", "_law_lists_here", "_law_cell", "_law_asked", "_law_turn", "_law_many", "_law_paper", "_law_last", "_law_own", "_law_name", "_law_parts", "_law_some"] [x0] = [some x0, none, none, none, none, none, none, none, none, none, none, none, none, none, none, none, none] from fun _ => rfl]
 refine ⟨_, rfl, a, ns, rfl, hS, fun pp fl sl fs ss H1 e1 hpp P => ?_⟩
 have lf := P.lf
 have lf8 := P.lf8
 have ls := P.ls
 have ls8 := P.ls8
 have l8 := P.l8
 have lfm : (fs.map V.str).length = fs.length := List.length_map ..
 have lsm : (ss.map V.str).length = ss.length := List.length_map ..
 have lfs : (fs ++ ss).length = fs.length + ss.length := List.length_append
 have hfn := (List.nodup_append.mp P.nd).1
 have hT := SqT.of (K := K) hpp
 refine ⟨_, rfl, .inr (.inl ⟨pp, _, 0, _, rfl, rfl, hT, rfl, ?_⟩)⟩
 refine ⟨_, rfl, .inr (.inl ⟨pp, _, 1, _, rfl, rfl, hT, rfl, ?_⟩)⟩
 refine ⟨_, rfl, _, rfl, _, rfl, a, fl, sl, ns, fs, ss, rfl, e1.seq hS, hlen, hb, P, fun l R H2 e2 hl hR hRl => ?_⟩
 have P2 := P.same e2
 refine ⟨(by show 9 ≤ sizeLine; decide), fun fx hfx => ?_⟩
 have k1 : Same H2 (upd H2 fx (.lst (FX9.map V.str))) := Qac hfx
 have hfx1 : upd H2 fx (.lst (FX9.map V.str)) fx = some (.lst (FX9.map V.str)) := Qab
 obtain ⟨HA, hHA⟩ : ∃ HA, upd H2 fx (.lst (FX9.map V.str)) = HA := ⟨_, rfl⟩
 have hHA2 : upd H2 fx (.lst [.str "nobody", .str "noone", .str "none", .str "other", .str "third", .str "fourth", .str "fifth", .str "sixth", .str "seventh"]) = HA := hHA
 rw [hHA2]
 rw [hHA] at k1 hfx1
 refine ⟨_, rfl, fx, rfl, ⟨_, SqL.of hfx1⟩, ?_⟩
 have lx9 : (FX9.map V.str).length = 9 := rfl
 refine Qbj (xs := FX9.map V.str) (fun j ys H' => ys = ((FX9.take j).filter (fun x => !decide (x ∈ fs ++ ss))).map V.str ∧ Same HA H') ⟨rfl, fun _ _ h => h⟩ (by omega) ?_ ?_ ?_
 ·rintro j ys H5 hj ⟨rfl, e5⟩
  refine ⟨SqL.of (e5 _ _ hfx1), ?_⟩
  rw [List.length_map]
  have h1 := List.length_filter_le (fun x => !decide (x ∈ fs ++ ss)) (FX9.take j)
  rw [List.length_take] at h1
  omega
 ·rintro j x ys H5 hx ⟨rfl, e5⟩
  obtain ⟨h, hh, rfl⟩ := Qbu hx
  have e15 := k1.trans e5
  refine ⟨_, rfl, _, rfl, _, rfl, fl, sl, _, _, rfl, rfl, e15 _ _ P2.f, e15 _ _ P2.s, (by omega), fun c hc => ?_⟩
  have eb : fs.map V.str ++ ss.map V.str = (fs ++ ss).map V.str := by rw [List.map_append]
  rw [eb]
  have s1 := Qac (o := .lst ((fs ++ ss).map V.str)) hc
  refine ⟨c, _, rfl, .inl (SqL.of Qab), rfl, Qb2 _, _, rfl, ?_⟩
  rw [Qb3]
  refine ndec2 (fun h2 => ?_) (fun h2 => ?_)
  ·refine ⟨_, rfl, ?_, e5.trans s1⟩
   rw [Qaw hh, List.filter_append, List.filter_cons_of_pos (by simpa using h2), List.map_append]
   rfl
  ·refine ⟨?_, e5.trans s1⟩
   rw [Qaw hh, List.filter_append, List.filter_cons_of_neg (by rw [decide_eq_true h2]; decide)]
   simp
 rintro ys H5 ⟨rfl, e5⟩ nl hnl
 rw [lx9, show FX9.take 9 = FX9 from rfl]
 obtain ⟨nb, rest, hnb, hnot⟩ := Qmj (A := fs ++ ss) (by omega)
 rw [hnb]
 have s6 := Qac (o := .lst ((nb :: rest).map V.str)) hnl
 refine .inl ⟨nl, _, 0, _, rfl, rfl, SqL.of Qab, (show atI ((nb :: rest).map V.str) ((0 : Nat) : Int) = some (.str nb) from Qbr rfl), ?_⟩
 generalize upd H5 nl (.lst ((nb :: rest).map V.str)) = H6 at s6 ⊢
 have e26 := (k1.trans e5).trans s6
 have e16 := e2.trans e26
 have f6 := e16 _ _ P.f
 refine ⟨(by show 2 ≤ sizeLine; decide), fun tz htz => ?_⟩
 have g1 := Qac (o := .tup [.int 0, .int 1]) htz
 have vtz : upd H6 tz (.tup [.int 0, .int 1]) tz = some (.tup [.int 0, .int 1]) := Qab
 have J1_ := (Qas H6).trans g1
 generalize upd H6 tz (.tup [.int 0, .int 1]) = J1 at g1 vtz J1_ ⊢
 refine ⟨(by show 1 ≤ sizeLine; decide), fun ly hly => ?_⟩
 have g2 := Qac (o := .lst [.ref tz]) hly
 have vly : upd J1 ly (.lst [.ref tz]) ly = some (.lst [.ref tz]) := Qab
 have J2_ := J1_.trans g2
 have vtz := g2 _ _ vtz
 generalize upd J1 ly (.lst [.ref tz]) = J2 at g2 vly J2_ vtz ⊢
 refine ⟨_, rfl, fl, _, rfl, .inl (SqL.of (J2_ _ _ f6)), ly, _, _, rfl, rfl, vly, by omega, by omega, (by show 1 * _ ≤ sizeLine; rw [Int.toNat_natCast]; omega), fun pz hpz => ?_⟩
 rw [Int.toNat_natCast, lfm, Qe0 tz 0 1]
 have g3 := Qac (o := .lst (rff (List.replicate fs.length (tz, 0, 1)))) hpz
 have vpz : upd J2 pz (.lst (rff (List.replicate fs.length (tz, 0, 1)))) pz = some (.lst (rff (List.replicate fs.length (tz, 0, 1)))) := Qab
 have J3_ := J2_.trans g3
 have vtz := g3 _ _ vtz
 have vly := g3 _ _ vly
 generalize upd J2 pz (.lst (rff (List.replicate fs.length (tz, 0, 1)))) = J3 at g3 vpz J3_ vtz vly ⊢
 refine ⟨(by show 2 ≤ sizeLine; decide), fun w0 hw0 => ?_⟩
 have g4 := Qac (o := .tup [.str nb, .ref pz]) hw0
 have vw0 : upd J3 w0 (.tup [.str nb, .ref pz]) w0 = some (.tup [.str nb, .ref pz]) := Qab
 have J4_ := J3_.trans g4
 have vtz := g4 _ _ vtz
 have vly := g4 _ _ vly
 have vpz := g4 _ _ vpz
 generalize upd J3 w0 (.tup [.str nb, .ref pz]) = J4 at g4 vw0 J4_ vtz vly vpz ⊢
 refine ⟨(by show 1 ≤ sizeLine; decide), fun tl htl => ?_⟩
 have npz := Qal vpz htl
 have g5 := Qac (o := .lst [.ref w0]) htl
 have vtl : upd J4 tl (.lst [.ref w0]) tl = some (.lst [.ref w0]) := Qab
 have J5_ := J4_.trans g5
 have vtz := g5 _ _ vtz
 have vly := g5 _ _ vly
 have vpz := g5 _ _ vpz
 have vw0 := g5 _ _ vw0
 generalize upd J4 tl (.lst [.ref w0]) = J5 at g5 vtl J5_ vtz vly vpz vw0 ⊢
 have e1J := e16.trans J5_
 have eJ := e26.trans J5_
 have fJ := e1J _ _ P.f
 have lJ := eJ _ _ hl
 have RJ := hR.same eJ
 have tl0 := J4_.free htl
 have W0 : TT J5 [(w0, nb, pz, List.replicate fs.length (tz, 0, 1))] := fun w hw => by
  rw [List.mem_singleton.mp hw]
  exact ⟨vw0, vpz, fun z hz => by rw [(List.mem_replicate.mp hz).2]; exact vtz⟩
 have k0 : Wok fs [(w0, nb, pz, List.replicate fs.length (tz, 0, 1))] := fun w hw => by
  rw [List.mem_singleton.mp hw]
  exact Qhr _ _ _ (Nat.two_pow_pos _)
 refine ⟨_, rfl, _, rfl, fl, l, fs, R, fs, fs ++ ss, rfl, fJ, lJ, RJ.x, by omega, lf8, hfn, (fun z hz => (hR z hz).2.2.1), fun b H7 e7 hbk => ?_⟩
 have e1S := e1J.trans e7
 have eJ7 := J5_.trans e7
 have fS := e7 _ _ fJ
 have lS := e7 _ _ lJ
 have RS := RJ.same e7
 have W0 := W0.same e7
 have vtl := e7 _ _ vtl
 apply join6 (fun (tl : Addr) (W : List Tl) (HX : Hp) => Same H6 HX ∧ HX tl = some (.lst (rft W)) ∧ TT HX W ∧ Wok fs W ∧ W.length ≤ 200 ∧ ∃ w W', W = w :: W' ∧ w.2.1 = nb)
 ·intro kk
  refine ⟨b, rfl, ?_⟩
  rcases Bool.eq_false_or_eq_true b with hbt | hbt
  ·refine ifT hbt ?_
   have T : Tb fs R := ⟨hfn, lf8, by omega, (fun z hz => (hR z hz).2.2.1), (fun z hz => (hR z hz).2.2.2.1), (fun z hz => (hR z hz).2.2.2.2), hbk hbt⟩
   refine ⟨_, rfl, fl, _, rfl, .inl (SqL.of ((Qas H7) _ _ fS)), fun c1 hc1 => ⟨_, rfl, l, _, rfl, .inl (SqL.of ((((Qas H7)).trans (Qac hc1)) _ _ lS)), fun d1 hd1 => ?_⟩⟩
   have k1a := Qac (o := .lst (fs.map V.str)) hc1
   have k1b := Qac (o := .lst (rfw R)) hd1
   have vc1 := k1b _ _ (Qab (H := H7) (a := c1) (o := .lst (fs.map V.str)))
   have vd1 : upd (upd H7 c1 (.lst (fs.map V.str))) d1 (.lst (rfw R)) d1 = some (.lst (rfw R)) := Qab
   have L1_ := ((Qas H7)).trans (k1a.trans k1b)
   generalize upd (upd H7 c1 (.lst (fs.map V.str))) d1 (.lst (rfw R)) = L1 at k1b vc1 vd1 L1_ ⊢
   refine ⟨c1, d1, fs, R, fs, fs ++ ss, rfl, vc1, hfn, by omega, vd1, (RS.same L1_).x, by omega, fun zp Z L2 m2 _ hzp hZ _ _ hZv => ?_⟩
   have lz : Z.length = fs.length := by
    have := congrArg List.length hZv
    rw [List.length_map, List.length_map] at this
    exact this
   have sq := Qix (fs := fs) T.s1 T.s2 T.rl
   refine ⟨zp, Z, 26, rfl, hzp, hZ, ⟨by show N45.Squ (Z.map (·.2)) 26; rw [hZv]; exact sq, by rw [lz]; exact T.l6, by rw [lz]; exact ex26 T.l6⟩, ?_, fun pa Y L3 m3 hpa hY hYv _ _ => ?_⟩
   ·have := N45.Qfl sq (Qeb T.nd T.s1 T.rk)
    rw [List.length_map] at this
    show (N45.trn (Z.map (·.2)) Z.length).2 = []
    rw [hZv, lz]
    exact this
   have hYv : prs Y = pap (fs.map (dueR fs R)) := by
    rw [hYv]
    show pap (Z.map (·.2)) = _
    rw [hZv]
   have L3_ := L1_.trans (m2.trans m3)
   refine ⟨_, rfl, fl, _, rfl, .inl (SqL.of (L3_ _ _ fS)), fun c2 hc2 => ⟨_, rfl, l, _, rfl, .inl (SqL.of (((L3_).trans (Qac hc2)) _ _ lS)), fun d2 hd2 => ?_⟩⟩
   have k2a := Qac (o := .lst (fs.map V.str)) hc2
   have k2b := Qac (o := .lst (rfw R)) hd2
   have vc2 := k2b _ _ (Qab (H := L3) (a := c2) (o := .lst (fs.map V.str)))
   have vd2 : upd (upd L3 c2 (.lst (fs.map V.str))) d2 (.lst (rfw R)) d2 = some (.lst (rfw R)) := Qab
   have L4_ := (L3_).trans (k2a.trans k2b)
   generalize upd (upd L3 c2 (.lst (fs.map V.str))) d2 (.lst (rfw R)) = L4 at k2b vc2 vd2 L4_ ⊢
   refine ⟨c2, d2, fs, R, fs, fs ++ ss, rfl, vc2, vd2, (RS.same L4_).x, T, fun lp W L5 m5 hlp hW vW lW => ?_⟩
   have L5_ := L4_.trans m5
   have s45 := (k2a.trans k2b).trans m5
   have hpa := s45 _ _ hpa
   have hY := hY.same s45
   refine ⟨_, rfl, fl, _, rfl, .inl (SqL.of (L5_ _ _ fS)), fun c3 hc3 => ⟨_, rfl, l, _, rfl, .inl (SqL.of (((L5_).trans (Qac hc3)) _ _ lS)), fun d3 hd3 => ?_⟩⟩
   have k3a := Qac (o := .lst (fs.map V.str)) hc3
   have k3b := Qac (o := .lst (rfw R)) hd3
   have vc3 := k3b _ _ (Qab (H := L5) (a := c3) (o := .lst (fs.map V.str)))
   have vd3 : upd (upd L5 c3 (.lst (fs.map V.str))) d3 (.lst (rfw R)) d3 = some (.lst (rfw R)) := Qab
   have L6_ := (L5_).trans (k3a.trans k3b)
   generalize upd (upd L5 c3 (.lst (fs.map V.str))) d3 (.lst (rfw R)) = L6 at k3b vc3 vd3 L6_ ⊢
   refine ⟨c3, d3, fs, R, fs, fs ++ ss, rfl, vc3, vd3, (RS.same L6_).x, T, fun op U L7 m7 hop hU vU lU => ?_⟩
   have L7_ := L6_.trans m7
   have s67 := (k3a.trans k3b).trans m7
   have hpa := s67 _ _ hpa
   have hY := hY.same s67
   have hlp := s67 _ _ hlp
   have hW := hW.same s67
   refine ⟨_, rfl, _, rfl, _, rfl, fl, l, pa, fs, R, fs, fs ++ ss, Y, rfl, L7_ _ _ fS, L7_ _ _ lS, (RS.same L7_).x, T, hpa, hY, hYv, fun L8 m8 => ⟨true, rfl, iteF ?_⟩⟩
   have L8_ := L7_.trans m8
   refine ⟨_, rfl, _, rfl, _, rfl, _, rfl, _, rfl, fl, l, pa, lp, op, fs, R, fs, fs ++ ss, Y, W, U, rfl, L8_ _ _ fS, L8_ _ _ lS, (RS.same L8_).x, T, m8 _ _ hpa, hY.same m8, hYv, m8 _ _ hlp, hW.same m8, vW, m8 _ _ hop, hU.same m8, vU, fun L9 m9 => ⟨true, rfl, iteF ?_⟩⟩
   have m89 := m8.trans m9
   have L9_ := L7_.trans m89
   refine ⟨_, rfl, _, rfl, tl, lp, _, _, rfl, rfl, L9_ _ _ vtl, m89 _ _ hlp, (by show 1 + (rft W).length ≤ sizeLine; rw [Qch]; omega), fun x1 hx1 => ?_⟩
   have g1 := Qac (o := .lst ([.ref w0] ++ rft W)) hx1
   refine ⟨_, rfl, x1, op, _, _, rfl, rfl, Qab, g1 _ _ (m89 _ _ hop), (by rw [List.length_append, Qch, Qch]; show 1 + W.length + U.length ≤ sizeLine; omega), fun tn htn => ?_⟩
   have g2 := Qac (o := .lst ([.ref w0] ++ rft W ++ rft U)) htn
   have htv : upd (upd L9 x1 (.lst ([.ref w0] ++ rft W))) tn (.lst ([.ref w0] ++ rft W ++ rft U)) tn = some (.lst ([.ref w0] ++ rft W ++ rft U)) := Qab
   have g12 := g1.trans g2
   generalize upd (upd L9 x1 (.lst ([.ref w0] ++ rft W))) tn (.lst ([.ref w0] ++ rft W ++ rft U)) = LX at g2 htv g12 ⊢
   have eX := L9_.trans g12
   have u9 := m89.trans g12
   obtain ⟨WW, eWW⟩ : ∃ WW, WW = [(w0, nb, pz, List.replicate fs.length (tz, 0, 1))] ++ W ++ U := ⟨_, rfl⟩
   refine Qg2 ?_
   simp only [List.set_cons_zero, List.set_cons_succ]
   generalize some (V.ref pa) = o1
   generalize some (V.ref lp) = o2
   generalize some (V.ref op) = o3
   refine kk tn WW LX o1 o2 o3 ⟨(J5_.trans e7).trans eX, ?_, ?_, ?_, ?_, ?_⟩
   ·rw [htv, eWW, Qdr, Qdr]
    rfl
   ·intro w hw
    rw [eWW] at hw
    rcases List.mem_append.mp hw with c | c
    ·rcases List.mem_append.mp c with c | c
     ·exact W0.same eX w c
     ·exact hW.same u9 w c
    ·exact hU.same u9 w c
   ·intro w hw
    rw [eWW] at hw
    rcases List.mem_append.mp hw with c | c
    ·rcases List.mem_append.mp c with c | c
     ·exact k0 w c
     ·exact Qlm T vW w c
    ·exact Qln T vU w c
   ·rw [eWW, List.length_append, List.length_append]
    show 1 + W.length + U.length ≤ 200
    omega
   ·exact ⟨_, W ++ U, by rw [eWW]; rfl, rfl⟩
  ·refine ifF hbt ?_
   obtain ⟨f0, _, h0⟩ := Qdp (ws := fs) (i := 0) (Int.le_refl 0) (by omega)
   refine ⟨_, rfl, .inl ⟨rfl, _, SqL.of vtl⟩, _, rfl, .inl ⟨fl, _, 0, _, rfl, rfl, SqL.of fS, h0, ?_⟩⟩
   refine ⟨(by show 2 ≤ sizeLine; decide), fun t1 ht1 => ?_⟩
   have g1 := Qac (o := .tup [.int 1, .int 1]) ht1
   have vt1 : upd H7 t1 (.tup [.int 1, .int 1]) t1 = some (.tup [.int 1, .int 1]) := Qab
   have J1_ := (Qas H7).trans g1
   have vtl := g1 _ _ vtl
   generalize upd H7 t1 (.tup [.int 1, .int 1]) = J1 at g1 vt1 J1_ vtl ⊢
   refine ⟨(by show 1 ≤ sizeLine; decide), fun l1 hl1 => ?_⟩
   have g2 := Qac (o := .lst [.ref t1]) hl1
   have vl1 : upd J1 l1 (.lst [.ref t1]) l1 = some (.lst [.ref t1]) := Qab
   have J2_ := J1_.trans g2
   have vtl := g2 _ _ vtl
   have vt1 := g2 _ _ vt1
   generalize upd J1 l1 (.lst [.ref t1]) = J2 at g2 vl1 J2_ vtl vt1 ⊢
   refine ⟨_, rfl, fl, _, rfl, .inl (SqL.of (J2_ _ _ fS)), l1, _, _, rfl, rfl, vl1, by omega, by omega, (by show 1 * _ ≤ sizeLine; rw [Int.toNat_natCast]; omega), fun po hpo => ?_⟩
   have npo := Qal vtl hpo
   rw [Int.toNat_natCast, lfm, Qe0 t1 1 1]
   have g3 := Qac (o := .lst (rff (List.replicate fs.length (t1, 1, 1)))) hpo
   have vpo : upd J2 po (.lst (rff (List.replicate fs.length (t1, 1, 1)))) po = some (.lst (rff (List.replicate fs.length (t1, 1, 1)))) := Qab
   have J3_ := J2_.trans g3
   have vtl := g3 _ _ vtl
   have vt1 := g3 _ _ vt1
   have vl1 := g3 _ _ vl1
   generalize upd J2 po (.lst (rff (List.replicate fs.length (t1, 1, 1)))) = J3 at g3 vpo J3_ vtl vt1 vl1 ⊢
   refine ⟨(by show 2 ≤ sizeLine; decide), fun w1 hw1 => ?_⟩
   have g4 := Qac (o := .tup [.str f0, .ref po]) hw1
   have vw1 : upd J3 w1 (.tup [.str f0, .ref po]) w1 = some (.tup [.str f0, .ref po]) := Qab
   have J4_ := J3_.trans g4
   have vtl := g4 _ _ vtl
   have vt1 := g4 _ _ vt1
   have vl1 := g4 _ _ vl1
   have vpo := g4 _ _ vpo
   generalize upd J3 w1 (.tup [.str f0, .ref po]) = J4 at g4 vw1 J4_ vtl vt1 vl1 vpo ⊢
   refine ⟨tl, _, _, rfl, rfl, vtl, (by show 1 < sizeLine; decide), ?_⟩
   have k1 : Wok fs [(w0, nb, pz, List.replicate fs.length (tz, 0, 1)), (w1, f0, po, List.replicate fs.length (t1, 1, 1))] := fun w hw => by
    rcases List.mem_cons.mp hw with c | c
    ·rw [c]
     exact Qhr _ _ _ (Nat.two_pow_pos _)
    ·rw [List.mem_singleton.mp c]
     exact Qhr _ _ _ (Qcg.mono (by decide))
   have t4 : TT J4 [(w0, nb, pz, List.replicate fs.length (tz, 0, 1)), (w1, f0, po, List.replicate fs.length (t1, 1, 1))] := fun w hw => by
    rcases List.mem_cons.mp hw with c | c
    ·rw [c]
     exact W0.same J4_ _ (List.mem_singleton.mpr rfl)
    ·rw [List.mem_singleton.mp c]
     exact ⟨vw1, vpo, fun z hz => by rw [(List.mem_replicate.mp hz).2]; exact vt1⟩
   exact kk tl [(w0, nb, pz, List.replicate fs.length (tz, 0, 1)), (w1, f0, po, List.replicate fs.length (t1, 1, 1))] _ none none none ⟨Qbo (eJ7.trans J4_) tl0, Qab, t4.keep vtl (fun w hw => by
    rcases List.mem_cons.mp hw with c | c
    ·rw [c]
     exact npz
    ·rw [List.mem_singleton.mp c]
     exact npo.symm), k1, by show 2 ≤ 200; decide, _, _, rfl, rfl⟩
 rintro tl W HX o1 o2 o3 ⟨eX, htl, hW, kW, lW, w1, W1, eW, en⟩
 have fX := eX _ _ f6
 have lX := eX _ _ (e26 _ _ hl)
 have RX' := hR.same (e26.trans eX)
 have hS6 := ((e1.trans e16).trans eX).seq hS
 obtain ⟨f0, _, h0⟩ := Qdp (ws := fs) (i := 0) (Int.le_refl 0) (by omega)
 obtain ⟨fz, hz⟩ := Qm0 (fs := fs) (by omega)
 refine ⟨_, rfl, a, ns, 3, rfl, hS6, ?_⟩
 refine ⟨_, rfl, ?_⟩
 apply join3 (fun (ap : Addr) (R' : List Rw) (HY : Hp) => Same HX HY ∧ HY ap = some (.lst (rfw R')) ∧ RX HY fs (fs ++ ss) R' ∧ Rb R')
 ·intro kk
  refine ⟨_, rfl, _, _, rfl, rfl, (by show (0 : Int) < 5; decide), rfl, _, rfl, ?_⟩
  refine dec2 (fun h5 => ?_) (fun h5 => ?_)
  ·refine ⟨_, rfl, _, rfl, l, _, rfl, SqL.of lX, fun x1 hx1 => ?_⟩
   have c1 : cutV (rfw R) none (some 1) = rfw (R.take (min 1 R.length)) := by
    have := Qdb (rfw R) 1
    rw [Qbc] at this
    refine this.trans ?_
    unfold rfw
    rw [List.map_take]
   rw [c1]
   have g1 := Qac (o := .lst (rfw (R.take (min 1 R.length)))) hx1
   have vx1 : upd HX x1 (.lst (rfw (R.take (min 1 R.length)))) x1 = some (.lst (rfw (R.take (min 1 R.length)))) := Qab
   have J1_ := (Qas HX).trans g1
   generalize upd HX x1 (.lst (rfw (R.take (min 1 R.length)))) = J1 at g1 vx1 J1_ ⊢
   have hw1 := hW w1 (by rw [eW]; exact List.mem_cons_self)
   have aw : atI (rft W) 0 = some (.ref w1.1) := by
    rw [eW]
    exact Qbr (show (rft (w1 :: W1))[0]? = some (.ref w1.1) from rfl)
   refine ⟨_, rfl, .inl ⟨fl, _, 0, _, rfl, rfl, SqL.of (J1_ _ _ fX), h0, _, rfl, .inl ⟨tl, _, 0, _, rfl, rfl, SqL.of (J1_ _ _ htl), aw, .inr (.inl ⟨w1.1, _, 0, _, rfl, rfl, SqT.of (J1_ _ _ hw1.1), rfl, (by show 3 ≤ sizeLine; decide), fun y1 hy1 => ?_⟩)⟩⟩⟩
   have g2 := Qac (o := .tup [.str f0, .str w1.2.1, .int 3]) hy1
   have vy1 : upd J1 y1 (.tup [.str f0, .str w1.2.1, .int 3]) y1 = some (.tup [.str f0, .str w1.2.1, .int 3]) := Qab
   have J2_ := J1_.trans g2
   have vx1 := g2 _ _ vx1
   generalize upd J1 y1 (.tup [.str f0, .str w1.2.1, .int 3]) = J2 at g2 vy1 J2_ vx1 ⊢
   refine ⟨_, rfl, .inl ⟨fl, _, 0, _, rfl, rfl, SqL.of (J2_ _ _ fX), h0, _, rfl, _, rfl, .inl ⟨fl, _, _, _, rfl, rfl, SqL.of (J2_ _ _ fX), hz, (by show 3 ≤ sizeLine; decide), fun y2 hy2 => ?_⟩⟩⟩
   have g3 := Qac (o := .tup [.str f0, .str fz, .int 0]) hy2
   have vy2 : upd J2 y2 (.tup [.str f0, .str fz, .int 0]) y2 = some (.tup [.str f0, .str fz, .int 0]) := Qab
   have J3_ := J2_.trans g3
   have vx1 := g3 _ _ vx1
   have vy1 := g3 _ _ vy1
   generalize upd J2 y2 (.tup [.str f0, .str fz, .int 0]) = J3 at g3 vy2 J3_ vx1 vy1 ⊢
   refine ⟨(by show 2 ≤ sizeLine; decide), fun x2 hx2 => ?_⟩
   have g4 := Qac (o := .lst [.ref y1, .ref y2]) hx2
   have vx2 : upd J3 x2 (.lst [.ref y1, .ref y2]) x2 = some (.lst [.ref y1, .ref y2]) := Qab
   have J4_ := J3_.trans g4
   have vx1 := g4 _ _ vx1
   have vy1 := g4 _ _ vy1
   have vy2 := g4 _ _ vy2
   generalize upd J3 x2 (.lst [.ref y1, .ref y2]) = J4 at g4 vx2 J4_ vx1 vy1 vy2 ⊢
   refine ⟨x1, x2, _, _, rfl, rfl, vx1, vx2, (by simp only [List.length_append, Qbc, List.length_cons, List.length_nil, List.length_take, List.length_drop]; omega), fun x3 hx3 => ?_⟩
   have g5 := Qac (o := .lst (rfw (R.take (min 1 R.length)) ++ [.ref y1, .ref y2])) hx3
   have vx3 : upd J4 x3 (.lst (rfw (R.take (min 1 R.length)) ++ [.ref y1, .ref y2])) x3 = some (.lst (rfw (R.take (min 1 R.length)) ++ [.ref y1, .ref y2])) := Qab
   have J5_ := J4_.trans g5
   have vx1 := g5 _ _ vx1
   have vy1 := g5 _ _ vy1
   have vy2 := g5 _ _ vy2
   have vx2 := g5 _ _ vx2
   generalize upd J4 x3 (.lst (rfw (R.take (min 1 R.length)) ++ [.ref y1, .ref y2])) = J5 at g5 vx3 J5_ vx1 vy1 vy2 vx2 ⊢
   refine ⟨_, rfl, _, rfl, l, _, rfl, SqL.of (J5_ _ _ lX), fun x4 hx4 => ?_⟩
   have c2 : cutV (rfw R) (some 1) none = rfw (R.drop (min 1 R.length)) := by
    have := Qeq (rfw R) 1
    rw [Qbc] at this
    refine this.trans ?_
    unfold rfw
    rw [List.map_drop]
   rw [c2]
   have g6 := Qac (o := .lst (rfw (R.drop (min 1 R.length)))) hx4
   have vx4 : upd J5 x4 (.lst (rfw (R.drop (min 1 R.length)))) x4 = some (.lst (rfw (R.drop (min 1 R.length)))) := Qab
   have J6_ := J5_.trans g6
   have vx1 := g6 _ _ vx1
   have vy1 := g6 _ _ vy1
   have vy2 := g6 _ _ vy2
   have vx2 := g6 _ _ vx2
   have vx3 := g6 _ _ vx3
   generalize upd J5 x4 (.lst (rfw (R.drop (min 1 R.length)))) = J6 at g6 vx4 J6_ vx1 vy1 vy2 vx2 vx3 ⊢
   refine ⟨x3, x4, _, _, rfl, rfl, vx3, vx4, (by simp only [List.length_append, Qbc, List.length_cons, List.length_nil, List.length_take, List.length_drop]; omega), fun x5 hx5 => ?_⟩
   have g7 := Qac (o := .lst (rfw (R.take (min 1 R.length)) ++ [.ref y1, .ref y2] ++ rfw (R.drop (min 1 R.length)))) hx5
   have vx5 : upd J6 x5 (.lst (rfw (R.take (min 1 R.length)) ++ [.ref y1, .ref y2] ++ rfw (R.drop (min 1 R.length)))) x5 = some (.lst (rfw (R.take (min 1 R.length)) ++ [.ref y1, .ref y2] ++ rfw (R.drop (min 1 R.length)))) := Qab
   have J7_ := J6_.trans g7
   have vx1 := g7 _ _ vx1
   have vy1 := g7 _ _ vy1
   have vy2 := g7 _ _ vy2
   have vx2 := g7 _ _ vx2
   have vx3 := g7 _ _ vx3
   have vx4 := g7 _ _ vx4
   generalize upd J6 x5 (.lst (rfw (R.take (min 1 R.length)) ++ [.ref y1, .ref y2] ++ rfw (R.drop (min 1 R.length)))) = J7 at g7 vx5 J7_ vx1 vy1 vy2 vx2 vx3 vx4 ⊢
   obtain ⟨RR, eR⟩ : ∃ RR : List Rw, RR = R.take (min 1 R.length) ++ [(y1, f0, w1.2.1, 3), (y2, f0, fz, 0)] ++ R.drop (min 1 R.length) := ⟨_, rfl⟩
   refine Qg2 ?_
   simp only [List.set_cons_zero, List.set_cons_succ]
   refine kk x5 RR J7 ⟨J7_, ?_, ?_, ?_, ?_⟩
   ·rw [vx5, eR, Qek, Qek]
    rfl
   ·intro z hz
    rw [eR] at hz
    rcases List.mem_append.mp hz with c | c
    ·rcases List.mem_append.mp c with c | c
     ·exact ⟨J7_ _ _ (RX' z (List.mem_of_mem_take c)).1, trivial⟩
     ·simp only [List.mem_cons, List.not_mem_nil, or_false] at c
      rcases c with rfl | rfl
      ·exact ⟨vy1, trivial⟩
      ·exact ⟨vy2, trivial⟩
    ·exact ⟨J7_ _ _ (RX' z (List.mem_of_mem_drop c)).1, trivial⟩
   ·rw [eR, List.length_append, List.length_append, List.length_take, List.length_drop]
    show min _ _ + 2 + _ ≤ 62
    omega
   ·intro z hz
    rw [eR] at hz
    rcases List.mem_append.mp hz with c | c
    ·rcases List.mem_append.mp c with c | c
     ·have := hR z (List.mem_of_mem_take c)
      exact ⟨by omega, this.2.2.2.2⟩
     ·simp only [List.mem_cons, List.not_mem_nil, or_false] at c
      rcases c with rfl | rfl
      ·exact ⟨by show (0 : Int) ≤ 3; decide, by show (3 : Int) ≤ 1000000; decide⟩
      ·exact ⟨by show (0 : Int) ≤ 0; decide, by show (0 : Int) ≤ 1000000; decide⟩
    ·have := hR z (List.mem_of_mem_drop c)
     exact ⟨by omega, this.2.2.2.2⟩
  ·simp only [List.set_cons_zero, List.set_cons_succ]
   exact kk l R HX ⟨Qas _, lX, RX'.x, by omega, fun z hz => ⟨by have := (hR z hz).2.2.2.1; omega, (hR z hz).2.2.2.2⟩⟩
 rintro ap R' HY ⟨eY, hap, hRY, hB⟩
 have fY := eY _ _ fX
 have tY := eY _ _ htl
 have WY := hW.same eY
 have lr : (rft W).length = W.length := Qch W
 have lw : 1 ≤ W.length := by
  rw [eW]
  exact Nat.succ_le_succ (Nat.zero_le _)
 refine ⟨_, rfl, _, 40014, rfl, by decide, fun n1 a0 a1 => ⟨_, rfl, tl, _, rfl, .inl (SqL.of tY), _, _, rfl, rfl, (by show (0 : Int) < ((rft W).length : Int); omega), ?_⟩⟩
 refine ⟨_, rfl, _, rfl, _, rfl, tl, _, rfl, SqL.of tY, fun x1 hx1 => ?_⟩
 obtain ⟨A1, eA1, sA1, lA1⟩ := Qi5 W (some (n1 % ((rft W).length : Int))) none
 rw [eA1]
 have g1 := Qac (o := .lst (rft A1)) hx1
 have vx1 : upd HY x1 (.lst (rft A1)) x1 = some (.lst (rft A1)) := Qab
 have J1_ := (Qas HY).trans g1
 generalize upd HY x1 (.lst (rft A1)) = J1 at g1 vx1 J1_ ⊢
 refine ⟨_, rfl, _, rfl, _, rfl, tl, _, rfl, SqL.of (J1_ _ _ tY), fun x2 hx2 => ?_⟩
 obtain ⟨A2, eA2, sA2, lA2⟩ := Qi5 W none (some (n1 % ((rft W).length : Int)))
 rw [eA2]
 have g2 := Qac (o := .lst (rft A2)) hx2
 have vx2 : upd J1 x2 (.lst (rft A2)) x2 = some (.lst (rft A2)) := Qab
 have J2_ := J1_.trans g2
 have vx1 := g2 _ _ vx1
 generalize upd J1 x2 (.lst (rft A2)) = J2 at g2 vx2 J2_ vx1 ⊢
 refine ⟨x1, x2, _, _, rfl, rfl, vx1, vx2, (by rw [Qch, Qch]; omega), fun x3 hx3 => ?_⟩
 rw [← Qdr]
 have g3 := Qac (o := .lst (rft (A1 ++ A2))) hx3
 have vx3 : upd J2 x3 (.lst (rft (A1 ++ A2))) x3 = some (.lst (rft (A1 ++ A2))) := Qab
 have J3_ := J2_.trans g3
 have vx1 := g3 _ _ vx1
 have vx2 := g3 _ _ vx2
 generalize upd J2 x3 (.lst (rft (A1 ++ A2))) = J3 at g3 vx3 J3_ vx1 vx2 ⊢
 refine ⟨_, rfl, x3, _, rfl, SqL.of vx3, fun x4 hx4 => ?_⟩
 obtain ⟨A3, eA3, sA3, lA3⟩ := Qi5 (A1 ++ A2) none (some 4)
 rw [eA3]
 have g4 := Qac (o := .lst (rft A3)) hx4
 have vx4 : upd J3 x4 (.lst (rft A3)) x4 = some (.lst (rft A3)) := Qab
 have J4_ := J3_.trans g4
 have vx1 := g4 _ _ vx1
 have vx2 := g4 _ _ vx2
 have vx3 := g4 _ _ vx3
 generalize upd J3 x4 (.lst (rft A3)) = J4 at g4 vx4 J4_ vx1 vx2 vx3 ⊢
 have sub : ∀ w ∈ A3, w ∈ W := fun w hw => (List.mem_append.mp (sA3 w hw)).elim (sA1 w) (sA2 w)
 refine ⟨x4, rfl, ⟨_, SqL.of vx4⟩, ?_⟩
 refine Qbw (xs := rft A3) (fun k σ H' => ∃ (o9 o14 o15 o16 : Option V) (m : Int), σ = [some (.ref a), some (.ref pp), some (.ref fl), some (.ref sl), some (.ref l), some (.ref fx), some (.ref tl), some (.int (ns.getD 3 0)), some (.ref ap), o9, some (.int m), o1, o2, o3, o14, o15, o16] ∧ Same J4 H') ⟨_, _, _, _, _, rfl, Qas _⟩ ?_ ?_ ?_
 ·rintro k σ G1 hk ⟨o9, o14, o15, o16, m, rfl, u1⟩
  exact SqL.of (u1 _ _ vx4)
 ·rintro k x σ G1 hx ⟨o9, o14, o15, o16, m, rfl, u1⟩
  obtain ⟨w, hw, rfl⟩ := Qkt hx
  have wW := sub w (List.mem_of_getElem? hw)
  have eG := J4_.trans u1
  obtain ⟨p1, p2, p3⟩ := (WY.same eG) w wW
  obtain ⟨pf, pn⟩ := kW w wW
  refine ⟨w.1, _, rfl, SqT.of p1, rfl, _, _, rfl, _, _, rfl, rfl, ?_⟩
  refine ⟨_, rfl, _, rfl, w.2.2.1, w.2.2.2, _, rfl, p2, p3, pf, by omega, by omega, fun t Ls G2 u2 ht hL => ?_⟩
  refine ⟨_, rfl, _, rfl, t, _, rfl, SqL.of ht, fun x6 hx6 => ?_⟩
  obtain ⟨Lm, eL, sL, _⟩ := cut_fs Ls none (some m)
  rw [eL]
  have u3 := Qac (o := .lst (rfs Lm)) hx6
  have v6 : upd G2 x6 (.lst (rfs Lm)) x6 = some (.lst (rfs Lm)) := Qab
  have hL3 := hL.same u3
  have u13 := u1.trans (u2.trans u3)
  generalize upd G2 x6 (.lst (rfs Lm)) = G3 at u3 v6 hL3 u13 ⊢
  refine ⟨x6, rfl, ⟨_, SqL.of v6⟩, ?_⟩
  refine Qbw (xs := rfs Lm) (fun j σ H' => ∃ (o9 o16 : Option V), σ = [some (.ref a), some (.ref pp), some (.ref fl), some (.ref sl), some (.ref l), some (.ref fx), some (.ref tl), some (.int (ns.getD 3 0)), some (.ref ap), o9, some (.int m), o1, o2, o3, some (.str w.2.1), some (.ref w.2.2.1), o16] ∧ Same G3 H') ⟨_, _, rfl, Qas _⟩ ?_ ?_ ?_
  ·rintro j σ G4 hj ⟨o9, o16, rfl, u4⟩
   exact SqL.of (u4 _ _ v6)
  ·rintro j x σ G4 hx ⟨o9, o16, rfl, u4⟩
   obtain ⟨z, hz, rfl⟩ := rfs_at hx
   obtain ⟨q1, q2, q3⟩ := hL3 z (sL z (List.mem_of_getElem? hz))
   have uY := J4_.trans (u13.trans u4)
   refine ⟨_, rfl, _, rfl, _, rfl, _, rfl, fl, ap, z.1, fs, R', w.2.1, z.2, fs, fs ++ ss, rfl, uY _ _ fY, uY _ _ hap, hRY.same uY, hB, lf8, u4 _ _ q1, q2.same u4, q3, fun G5 u5 => ⟨true, rfl, iteF ?_⟩⟩
   exact ⟨_, _, rfl, u4.trans u5⟩
  rintro σ G4 ⟨o9, o16, rfl, u4⟩
  exact ⟨_, _, _, _, 3, rfl, u13.trans u4⟩
 rintro σ G1 ⟨o9, o14, o15, o16, m, rfl, u1⟩
 exact q _
end
theorem all_mk {l : PySem.W.OpenLaw} {w : World} {K : Q4} {h : Heap} {mg : Str → Option Value} {fa : Addr}  {fbp0 : Addr} {ocbp0 kVbp0 dcbp0 pmbp0 cdbp0 ctbp0 : Value} {odbp0 anbp0 : Option Addr} {slbp0 : Array Q5} {far0 : Addr} {ocar0 kVar0 dcar0 pmar0 cdar0 ctar0 : Value} {odar0 anar0 : Option Addr} {slar0 : Array Q5} {fbj0 : Addr} {ocbj0 kVbj0 dcbj0 pmbj0 cdbj0 ctbj0 : Value} {odbj0 anbj0 : Option Addr} {slbj0 : Array Q5} {fbs0 : Addr} {ocbs0 kVbs0 dcbs0 pmbs0 cdbs0 ctbs0 : Value} {odbs0 anbs0 : Option Addr} {slbs0 : Array Q5} {fad0 : Addr} {ocad0 kVad0 dcad0 pmad0 cdad0 ctad0 : Value} {odad0 anad0 : Option Addr} {slad0 : Array Q5} {faq0 : Addr} {ocaq0 kVaq0 dcaq0 pmaq0 cdaq0 ctaq0 : Value} {odaq0 anaq0 : Option Addr} {slaq0 : Array Q5} {fai0 : Addr} {ocai0 kVai0 dcai0 pmai0 cdai0 ctai0 : Value} {odai0 anai0 : Option Addr} {slai0 : Array Q5} {faj0 : Addr} {ocaj0 kVaj0 dcaj0 pmaj0 cdaj0 ctaj0 : Value} {odaj0 anaj0 : Option Addr} {slaj0 : Array Q5} {fam0 : Addr} {ocam0 kVam0 dcam0 pmam0 cdam0 ctam0 : Value} {odam0 anam0 : Option Addr} {slam0 : Array Q5} {fao0 : Addr} {ocao0 kVao0 dcao0 pmao0 cdao0 ctao0 : Value} {odao0 anao0 : Option Addr} {slao0 : Array Q5} {fae0 : Addr} {ocae0 kVae0 dcae0 pmae0 cdae0 ctae0 : Value} {odae0 anae0 : Option Addr} {slae0 : Array Q5} {fag0 : Addr} {ocag0 kVag0 dcag0 pmag0 cdag0 ctag0 : Value} {odag0 anag0 : Option Addr} {slag0 : Array Q5} {fbd0 : Addr} {ocbd0 kVbd0 dcbd0 pmbd0 cdbd0 ctbd0 : Value} {odbd0 anbd0 : Option Addr} {slbd0 : Array Q5} {fbf0 : Addr} {ocbf0 kVbf0 dcbf0 pmbf0 cdbf0 ctbf0 : Value} {odbf0 anbf0 : Option Addr} {slbf0 : Array Q5} {fbo0 : Addr} {ocbo0 kVbo0 dcbo0 pmbo0 cdbo0 ctbo0 : Value} {odbo0 anbo0 : Option Addr} {slbo0 : Array Q5} {fav0 : Addr} {ocav0 kVav0 dcav0 pmav0 cdav0 ctav0 : Value} {odav0 anav0 : Option Addr} {slav0 : Array Q5} {fbh0 : Addr} {ocbh0 kVbh0 dcbh0 pmbh0 cdbh0 ctbh0 : Value} {odbh0 anbh0 : Option Addr} {slbh0 : Array Q5} {fbw0 : Addr} {ocbw0 kVbw0 dcbw0 pmbw0 cdbw0 ctbw0 : Value} {odbw0 anbw0 : Option Addr} {slbw0 : Array Q5} {fbe0 : Addr} {ocbe0 kVbe0 dcbe0 pmbe0 cdbe0 ctbe0 : Value} {odbe0 anbe0 : Option Addr} {slbe0 : Array Q5} {fau0 : Addr} {ocau0 kVau0 dcau0 pmau0 cdau0 ctau0 : Value} {odau0 anau0 : Option Addr} {slau0 : Array Q5} {fax0 : Addr} {ocax0 kVax0 dcax0 pmax0 cdax0 ctax0 : Value} {odax0 anax0 : Option Addr} {slax0 : Array Q5} {fbv0 : Addr} {ocbv0 kVbv0 dcbv0 pmbv0 cdbv0 ctbv0 : Value} {odbv0 anbv0 : Option Addr} {slbv0 : Array Q5} {fbk0 : Addr} {ocbk0 kVbk0 dcbk0 pmbk0 cdbk0 ctbk0 : Value} {odbk0 anbk0 : Option Addr} {slbk0 : Array Q5} {fbl0 : Addr} {ocbl0 kVbl0 dcbl0 pmbl0 cdbl0 ctbl0 : Value} {odbl0 anbl0 : Option Addr} {slbl0 : Array Q5} {fbq0 : Addr} {ocbq0 kVbq0 dcbq0 pmbq0 cdbq0 ctbq0 : Value} {odbq0 anbq0 : Option Addr} {slbq0 : Array Q5} {fas0 : Addr} {ocas0 kVas0 dcas0 pmas0 cdas0 ctas0 : Value} {odas0 anas0 : Option Addr} {slas0 : Array Q5} {fat0 : Addr} {ocat0 kVat0 dcat0 pmat0 cdat0 ctat0 : Value} {odat0 anat0 : Option Addr} {slat0 : Array Q5} {fay0 : Addr} {ocay0 kVay0 dcay0 pmay0 cday0 ctay0 : Value} {oday0 anay0 : Option Addr} {slay0 : Array Q5} {Tay0 : Addr} {odTay0 : Option Addr} {nTay0 : Nat} {slTay0 : Array Q5} {tkTay0 : Tok} {fbr0 : Addr} {ocbr0 kVbr0 dcbr0 pmbr0 cdbr0 ctbr0 : Value} {odbr0 anbr0 : Option Addr} {slbr0 : Array Q5} {fbb0 : Addr} {ocbb0 kVbb0 dcbb0 pmbb0 cdbb0 ctbb0 : Value} {odbb0 anbb0 : Option Addr} {slbb0 : Array Q5} {fbi0 : Addr} {ocbi0 kVbi0 dcbi0 pmbi0 cdbi0 ctbi0 : Value} {odbi0 anbi0 : Option Addr} {slbi0 : Array Q5} {faw0 : Addr} {ocaw0 kVaw0 dcaw0 pmaw0 cdaw0 ctaw0 : Value} {odaw0 anaw0 : Option Addr} {slaw0 : Array Q5} {fbg0 : Addr} {ocbg0 kVbg0 dcbg0 pmbg0 cdbg0 ctbg0 : Value} {odbg0 anbg0 : Option Addr} {slbg0 : Array Q5} {fba0 : Addr} {ocba0 kVba0 dcba0 pmba0 cdba0 ctba0 : Value} {odba0 anba0 : Option Addr} {slba0 : Array Q5} {fbu0 : Addr} {ocbu0 kVbu0 dcbu0 pmbu0 cdbu0 ctbu0 : Value} {odbu0 anbu0 : Option Addr} {slbu0 : Array Q5} {fbt0 : Addr} {ocbt0 kVbt0 dcbt0 pmbt0 cdbt0 ctbt0 : Value} {odbt0 anbt0 : Option Addr} {slbt0 : Array Q5} {faz0 : Addr} {ocaz0 kVaz0 dcaz0 pmaz0 cdaz0 ctaz0 : Value} {odaz0 anaz0 : Option Addr} {slaz0 : Array Q5} {fbm0 : Addr} {ocbm0 kVbm0 dcbm0 pmbm0 cdbm0 ctbm0 : Value} {odbm0 anbm0 : Option Addr} {slbm0 : Array Q5} {fbn0 : Addr} {ocbn0 kVbn0 dcbn0 pmbn0 cdbn0 ctbn0 : Value} {odbn0 anbn0 : Option Addr} {slbn0 : Array Q5} {fap0 : Addr} {ocap0 kVap0 dcap0 pmap0 cdap0 ctap0 : Value} {odap0 anap0 : Option Addr} {slap0 : Array Q5} {faa0 : Addr} {ocaa0 kVaa0 dcaa0 pmaa0 cdaa0 ctaa0 : Value} {odaa0 anaa0 : Option Addr} {slaa0 : Array Q5} {fan0 : Addr} {ocan0 kVan0 dcan0 pman0 cdan0 ctan0 : Value} {odan0 anan0 : Option Addr} {slan0 : Array Q5} {fak0 : Addr} {ocak0 kVak0 dcak0 pmak0 cdak0 ctak0 : Value} {odak0 anak0 : Option Addr} {slak0 : Array Q5} {fal0 : Addr} {ocal0 kVal0 dcal0 pmal0 cdal0 ctal0 : Value} {odal0 anal0 : Option Addr} {slal0 : Array Q5} {fac0 : Addr} {ocac0 kVac0 dcac0 pmac0 cdac0 ctac0 : Value} {odac0 anac0 : Option Addr} {slac0 : Array Q5} {fah0 : Addr} {ocah0 kVah0 dcah0 pmah0 cdah0 ctah0 : Value} {odah0 anah0 : Option Addr} {slah0 : Array Q5} {faf0 : Addr} {ocaf0 kVaf0 dcaf0 pmaf0 cdaf0 ctaf0 : Value} {odaf0 anaf0 : Option Addr} {slaf0 : Array Q5} {fab0 : Addr} {ocab0 kVab0 dcab0 pmab0 cdab0 ctab0 : Value} {odab0 anab0 : Option Addr} {slab0 : Array Q5} {fbc0 : Addr} {ocbc0 kVbc0 dcbc0 pmbc0 cdbc0 ctbc0 : Value} {odbc0 anbc0 : Option Addr} {slbc0 : Array Q5} (X : K.In h) (G : h.Ns mainGlobals mg) (hfa : mg "law" = some (.ref fa))
 (nz_sum : nsIn K mainGlobals "sum" = some none) (nz_sorted : nsIn K mainGlobals "sorted" = some none) (nz_set : nsIn K mainGlobals "set" = some none) (nz_len : nsIn K mainGlobals "len" = some none) (nz_isinstance : nsIn K mainGlobals "isinstance" = some none) (nz_int : nsIn K mainGlobals "int" = some none) (nz_bool : nsIn K mainGlobals "bool" = some none) (nz_range : nsIn K mainGlobals "range" = some none) (nz_min : nsIn K mainGlobals "min" = some none) (nz_any : nsIn K mainGlobals "any" = some none) (nz_dict : nsIn K mainGlobals "dict" = some none) (nz_abs : nsIn K mainGlobals "abs" = some none) (nz_enumerate : nsIn K mainGlobals "enumerate" = some none) (nz_list : nsIn K mainGlobals "list" = some none) (nz_zip : nsIn K mainGlobals "zip" = some none) (nz_all : nsIn K mainGlobals "all" = some none) (q_ib : PySem.W.kitOne K (.type "int") (.type "bool") = some false) (abp0 : nsIn K mainGlobals "shares_of" = some (some (.ref fbp0))) (lbp0 : K.lookup fbp0 = some ⟨ocbp0, odbp0, .func (fnOf "shares_of" "shares_of" (defArgs sbp0) (defBody sbp0) (defScope sbp0) .none kVbp0 dcbp0 pmbp0 anbp0 cdbp0 ctbp0), slbp0⟩) (cbp0 : codeIn K cdbp0 "shares_of" = true) (kbp0 : keepIn K (.ref fbp0) = true) (aar0 : nsIn K mainGlobals "all_shares" = some (some (.ref far0))) (lar0 : K.lookup far0 = some ⟨ocar0, odar0, .func (fnOf "all_shares" "all_shares" (defArgs sar0) (defBody sar0) (defScope sar0) .none kVar0 dcar0 pmar0 anar0 cdar0 ctar0), slar0⟩) (car0 : codeIn K cdar0 "all_shares" = true) (kar0 : keepIn K (.ref far0) = true) (abj0 : nsIn K mainGlobals "owners_of" = some (some (.ref fbj0))) (lbj0 : K.lookup fbj0 = some ⟨ocbj0, odbj0, .func (fnOf "owners_of" "owners_of" (defArgs sbj0) (defBody sbj0) (defScope sbj0) .none kVbj0 dcbj0 pmbj0 anbj0 cdbj0 ctbj0), slbj0⟩) (cbj0 : codeIn K cdbj0 "owners_of" = true) (kbj0 : keepIn K (.ref fbj0) = true) (abs0 : nsIn K mainGlobals "strangers_of" = some (some (.ref fbs0))) (lbs0 : K.lookup fbs0 = some ⟨ocbs0, odbs0, .func (fnOf "strangers_of" "strangers_of" (defArgs sbs0) (defBody sbs0) (defScope sbs0) .none kVbs0 dcbs0 pmbs0 anbs0 cdbs0 ctbs0), slbs0⟩) (cbs0 : codeIn K cdbs0 "strangers_of" = true) (kbs0 : keepIn K (.ref fbs0) = true) (aad0 : nsIn K mainGlobals "_law_cell_at" = some (some (.ref fad0))) (lad0 : K.lookup fad0 = some ⟨ocad0, odad0, .func (fnOf "_law_cell_at" "_law_cell_at" (defArgs sad0) (defBody sad0) (defScope sad0) .none kVad0 dcad0 pmad0 anad0 cdad0 ctad0), slad0⟩) (cad0 : codeIn K cdad0 "_law_cell_at" = true) (kad0 : keepIn K (.ref fad0) = true) (aaq0 : nsIn K mainGlobals "_law_whole" = some (some (.ref faq0))) (laq0 : K.lookup faq0 = some ⟨ocaq0, odaq0, .func (fnOf "_law_whole" "_law_whole" (defArgs saq0) (defBody saq0) (defScope saq0) .none kVaq0 dcaq0 pmaq0 anaq0 cdaq0 ctaq0), slaq0⟩) (caq0 : codeIn K cdaq0 "_law_whole" = true) (kaq0 : keepIn K (.ref faq0) = true) (aai0 : nsIn K mainGlobals "_law_mix" = some (some (.ref fai0))) (lai0 : K.lookup fai0 = some ⟨ocai0, odai0, .func (fnOf "_law_mix" "_law_mix" (defArgs sai0) (defBody sai0) (defScope sai0) .none kVai0 dcai0 pmai0 anai0 cdai0 ctai0), slai0⟩) (cai0 : codeIn K cdai0 "_law_mix" = true) (kai0 : keepIn K (.ref fai0) = true) (aaj0 : nsIn K mainGlobals "_law_names" = some (some (.ref faj0))) (laj0 : K.lookup faj0 = some ⟨ocaj0, odaj0, .func (fnOf "_law_names" "_law_names" (defArgs saj0) (defBody saj0) (defScope saj0) .none kVaj0 dcaj0 pmaj0 anaj0 cdaj0 ctaj0), slaj0⟩) (caj0 : codeIn K cdaj0 "_law_names" = true) (kaj0 : keepIn K (.ref faj0) = true) (aam0 : nsIn K mainGlobals "_law_people" = some (some (.ref fam0))) (lam0 : K.lookup fam0 = some ⟨ocam0, odam0, .func (fnOf "_law_people" "_law_people" (defArgs sam0) (defBody sam0) (defScope sam0) .none kVam0 dcam0 pmam0 anam0 cdam0 ctam0), slam0⟩) (cam0 : codeIn K cdam0 "_law_people" = true) (kam0 : keepIn K (.ref fam0) = true) (aao0 : nsIn K mainGlobals "_law_shares" = some (some (.ref fao0))) (lao0 : K.lookup fao0 = some ⟨ocao0, odao0, .func (fnOf "_law_shares" "_law_shares" (defArgs sao0) (defBody sao0) (defScope sao0) .none kVao0 dcao0 pmao0 anao0 cdao0 ctao0), slao0⟩) (cao0 : codeIn K cdao0 "_law_shares" = true) (kao0 : keepIn K (.ref fao0) = true) (aae0 : nsIn K mainGlobals "_law_good" = some (some (.ref fae0))) (lae0 : K.lookup fae0 = some ⟨ocae0, odae0, .func (fnOf "_law_good" "_law_good" (defArgs sae0) (defBody sae0) (defScope sae0) .none kVae0 dcae0 pmae0 anae0 cdae0 ctae0), slae0⟩) (cae0 : codeIn K cdae0 "_law_good" = true) (kae0 : keepIn K (.ref fae0) = true) (aag0 : nsIn K mainGlobals "_law_held" = some (some (.ref fag0))) (lag0 : K.lookup fag0 = some ⟨ocag0, odag0, .func (fnOf "_law_held" "_law_held" (defArgs sag0) (defBody sag0) (defScope sag0) .none kVag0 dcag0 pmag0 anag0 cdag0 ctag0), slag0⟩) (cag0 : codeIn K cdag0 "_law_held" = true) (kag0 : keepIn K (.ref fag0) = true) (abd0 : nsIn K mainGlobals "leads_on" = some (some (.ref fbd0))) (lbd0 : K.lookup fbd0 = some ⟨ocbd0, odbd0, .func (fnOf "leads_on" "leads_on" (defArgs sbd0) (defBody sbd0) (defScope sbd0) .none kVbd0 dcbd0 pmbd0 anbd0 cdbd0 ctbd0), slbd0⟩) (cbd0 : codeIn K cdbd0 "leads_on" = true) (kbd0 : keepIn K (.ref fbd0) = true) (abf0 : nsIn K mainGlobals "levels_of" = some (some (.ref fbf0))) (lbf0 : K.lookup fbf0 = some ⟨ocbf0, odbf0, .func (fnOf "levels_of" "levels_of" (defArgs sbf0) (defBody sbf0) (defScope sbf0) .none kVbf0 dcbf0 pmbf0 anbf0 cdbf0 ctbf0), slbf0⟩) (cbf0 : codeIn K cdbf0 "levels_of" = true) (kbf0 : keepIn K (.ref fbf0) = true) (abo0 : nsIn K mainGlobals "ring_of" = some (some (.ref fbo0))) (lbo0 : K.lookup fbo0 = some ⟨ocbo0, odbo0, .func (fnOf "ring_of" "ring_of" (defArgs sbo0) (defBody sbo0) (defScope sbo0) .none kVbo0 dcbo0 pmbo0 anbo0 cdbo0 ctbo0), slbo0⟩) (cbo0 : codeIn K cdbo0 "ring_of" = true) (kbo0 : keepIn K (.ref fbo0) = true) (aav0 : nsIn K mainGlobals "divisor" = some (some (.ref fav0))) (lav0 : K.lookup fav0 = some ⟨ocav0, odav0, .func (fnOf "divisor" "divisor" (defArgs sav0) (defBody sav0) (defScope sav0) .none kVav0 dcav0 pmav0 anav0 cdav0 ctav0), slav0⟩) (cav0 : codeIn K cdav0 "divisor" = true) (kav0 : keepIn K (.ref fav0) = true) (abh0 : nsIn K mainGlobals "only_at" = some (some (.ref fbh0))) (lbh0 : K.lookup fbh0 = some ⟨ocbh0, odbh0, .func (fnOf "only_at" "only_at" (defArgs sbh0) (defBody sbh0) (defScope sbh0) .none kVbh0 dcbh0 pmbh0 anbh0 cdbh0 ctbh0), slbh0⟩) (cbh0 : codeIn K cdbh0 "only_at" = true) (kbh0 : keepIn K (.ref fbh0) = true) (abw0 : nsIn K mainGlobals "widened" = some (some (.ref fbw0))) (lbw0 : K.lookup fbw0 = some ⟨ocbw0, odbw0, .func (fnOf "widened" "widened" (defArgs sbw0) (defBody sbw0) (defScope sbw0) .none kVbw0 dcbw0 pmbw0 anbw0 cdbw0 ctbw0), slbw0⟩) (cbw0 : codeIn K cdbw0 "widened" = true) (kbw0 : keepIn K (.ref fbw0) = true) (abe0 : nsIn K mainGlobals "lean" = some (some (.ref fbe0))) (lbe0 : K.lookup fbe0 = some ⟨ocbe0, odbe0, .func (fnOf "lean" "lean" (defArgs sbe0) (defBody sbe0) (defScope sbe0) .none kVbe0 dcbe0 pmbe0 anbe0 cdbe0 ctbe0), slbe0⟩) (cbe0 : codeIn K cdbe0 "lean" = true) (kbe0 : keepIn K (.ref fbe0) = true) (aau0 : nsIn K mainGlobals "cleared" = some (some (.ref fau0))) (lau0 : K.lookup fau0 = some ⟨ocau0, odau0, .func (fnOf "cleared" "cleared" (defArgs sau0) (defBody sau0) (defScope sau0) .none kVau0 dcau0 pmau0 anau0 cdau0 ctau0), slau0⟩) (cau0 : codeIn K cdau0 "cleared" = true) (kau0 : keepIn K (.ref fau0) = true) (aax0 : nsIn K mainGlobals "first_with" = some (some (.ref fax0))) (lax0 : K.lookup fax0 = some ⟨ocax0, odax0, .func (fnOf "first_with" "first_with" (defArgs sax0) (defBody sax0) (defScope sax0) .none kVax0 dcax0 pmax0 anax0 cdax0 ctax0), slax0⟩) (cax0 : codeIn K cdax0 "first_with" = true) (kax0 : keepIn K (.ref fax0) = true) (abv0 : nsIn K mainGlobals "turned" = some (some (.ref fbv0))) (lbv0 : K.lookup fbv0 = some ⟨ocbv0, odbv0, .func (fnOf "turned" "turned" (defArgs sbv0) (defBody sbv0) (defScope sbv0) .none kVbv0 dcbv0 pmbv0 anbv0 cdbv0 ctbv0), slbv0⟩) (cbv0 : codeIn K cdbv0 "turned" = true) (kbv0 : keepIn K (.ref fbv0) = true) (abk0 : nsIn K mainGlobals "pair_of" = some (some (.ref fbk0))) (lbk0 : K.lookup fbk0 = some ⟨ocbk0, odbk0, .func (fnOf "pair_of" "pair_of" (defArgs sbk0) (defBody sbk0) (defScope sbk0) .none kVbk0 dcbk0 pmbk0 anbk0 cdbk0 ctbk0), slbk0⟩) (cbk0 : codeIn K cdbk0 "pair_of" = true) (kbk0 : keepIn K (.ref fbk0) = true) (abl0 : nsIn K mainGlobals "paper_of" = some (some (.ref fbl0))) (lbl0 : K.lookup fbl0 = some ⟨ocbl0, odbl0, .func (fnOf "paper_of" "paper_of" (defArgs sbl0) (defBody sbl0) (defScope sbl0) .none kVbl0 dcbl0 pmbl0 anbl0 cdbl0 ctbl0), slbl0⟩) (cbl0 : codeIn K cdbl0 "paper_of" = true) (kbl0 : keepIn K (.ref fbl0) = true) (abq0 : nsIn K mainGlobals "square_of" = some (some (.ref fbq0))) (lbq0 : K.lookup fbq0 = some ⟨ocbq0, odbq0, .func (fnOf "square_of" "square_of" (defArgs sbq0) (defBody sbq0) (defScope sbq0) .none kVbq0 dcbq0 pmbq0 anbq0 cdbq0 ctbq0), slbq0⟩) (cbq0 : codeIn K cdbq0 "square_of" = true) (kbq0 : keepIn K (.ref fbq0) = true) (aas0 : nsIn K mainGlobals "checked" = some (some (.ref fas0))) (las0 : K.lookup fas0 = some ⟨ocas0, odas0, .func (fnOf "checked" "checked" (defArgs sas0) (defBody sas0) (defScope sas0) .none kVas0 dcas0 pmas0 anas0 cdas0 ctas0), slas0⟩) (cas0 : codeIn K cdas0 "checked" = true) (kas0 : keepIn K (.ref fas0) = true) (aat0 : nsIn K mainGlobals "checked_paper" = some (some (.ref fat0))) (lat0 : K.lookup fat0 = some ⟨ocat0, odat0, .func (fnOf "checked_paper" "checked_paper" (defArgs sat0) (defBody sat0) (defScope sat0) .none kVat0 dcat0 pmat0 anat0 cdat0 ctat0), slat0⟩) (cat0 : codeIn K cdat0 "checked_paper" = true) (kat0 : keepIn K (.ref fat0) = true) (aay0 : nsIn K mainGlobals "fraction" = some (some (.ref fay0))) (lay0 : K.lookup fay0 = some ⟨ocay0, oday0, .func (fnOf "fraction" "fraction" (defArgs say0) (defBody say0) (defScope say0) (.ref Tay0) kVay0 dcay0 pmay0 anay0 cday0 ctay0), slay0⟩) (cay0 : codeIn K cday0 "fraction" = true) (kay0 : keepIn K (.ref fay0) = true) (lTay0 : K.lookup Tay0 = some ⟨.type "tuple", odTay0, .seq #[.int 1 tkTay0] nTay0, slTay0⟩) (abr0 : nsIn K mainGlobals "stranger_part" = some (some (.ref fbr0))) (lbr0 : K.lookup fbr0 = some ⟨ocbr0, odbr0, .func (fnOf "stranger_part" "stranger_part" (defArgs sbr0) (defBody sbr0) (defScope sbr0) .none kVbr0 dcbr0 pmbr0 anbr0 cdbr0 ctbr0), slbr0⟩) (cbr0 : codeIn K cdbr0 "stranger_part" = true) (kbr0 : keepIn K (.ref fbr0) = true) (abb0 : nsIn K mainGlobals "last_parts" = some (some (.ref fbb0))) (lbb0 : K.lookup fbb0 = some ⟨ocbb0, odbb0, .func (fnOf "last_parts" "last_parts" (defArgs sbb0) (defBody sbb0) (defScope sbb0) .none kVbb0 dcbb0 pmbb0 anbb0 cdbb0 ctbb0), slbb0⟩) (cbb0 : codeIn K cdbb0 "last_parts" = true) (kbb0 : keepIn K (.ref fbb0) = true) (abi0 : nsIn K mainGlobals "over" = some (some (.ref fbi0))) (lbi0 : K.lookup fbi0 = some ⟨ocbi0, odbi0, .func (fnOf "over" "over" (defArgs sbi0) (defBody sbi0) (defScope sbi0) .none kVbi0 dcbi0 pmbi0 anbi0 cdbi0 ctbi0), slbi0⟩) (cbi0 : codeIn K cdbi0 "over" = true) (kbi0 : keepIn K (.ref fbi0) = true) (aaw0 : nsIn K mainGlobals "firm_parts" = some (some (.ref faw0))) (law0 : K.lookup faw0 = some ⟨ocaw0, odaw0, .func (fnOf "firm_parts" "firm_parts" (defArgs saw0) (defBody saw0) (defScope saw0) .none kVaw0 dcaw0 pmaw0 anaw0 cdaw0 ctaw0), slaw0⟩) (caw0 : codeIn K cdaw0 "firm_parts" = true) (kaw0 : keepIn K (.ref faw0) = true) (abg0 : nsIn K mainGlobals "lowest" = some (some (.ref fbg0))) (lbg0 : K.lookup fbg0 = some ⟨ocbg0, odbg0, .func (fnOf "lowest" "lowest" (defArgs sbg0) (defBody sbg0) (defScope sbg0) .none kVbg0 dcbg0 pmbg0 anbg0 cdbg0 ctbg0), slbg0⟩) (cbg0 : codeIn K cdbg0 "lowest" = true) (kbg0 : keepIn K (.ref fbg0) = true) (aba0 : nsIn K mainGlobals "joined" = some (some (.ref fba0))) (lba0 : K.lookup fba0 = some ⟨ocba0, odba0, .func (fnOf "joined" "joined" (defArgs sba0) (defBody sba0) (defScope sba0) .none kVba0 dcba0 pmba0 anba0 cdba0 ctba0), slba0⟩) (cba0 : codeIn K cdba0 "joined" = true) (kba0 : keepIn K (.ref fba0) = true) (abu0 : nsIn K mainGlobals "times" = some (some (.ref fbu0))) (lbu0 : K.lookup fbu0 = some ⟨ocbu0, odbu0, .func (fnOf "times" "times" (defArgs sbu0) (defBody sbu0) (defScope sbu0) .none kVbu0 dcbu0 pmbu0 anbu0 cdbu0 ctbu0), slbu0⟩) (cbu0 : codeIn K cdbu0 "times" = true) (kbu0 : keepIn K (.ref fbu0) = true) (abt0 : nsIn K mainGlobals "sum_of" = some (some (.ref fbt0))) (lbt0 : K.lookup fbt0 = some ⟨ocbt0, odbt0, .func (fnOf "sum_of" "sum_of" (defArgs sbt0) (defBody sbt0) (defScope sbt0) .none kVbt0 dcbt0 pmbt0 anbt0 cdbt0 ctbt0), slbt0⟩) (cbt0 : codeIn K cdbt0 "sum_of" = true) (kbt0 : keepIn K (.ref fbt0) = true) (aaz0 : nsIn K mainGlobals "held_by" = some (some (.ref faz0))) (laz0 : K.lookup faz0 = some ⟨ocaz0, odaz0, .func (fnOf "held_by" "held_by" (defArgs saz0) (defBody saz0) (defScope saz0) .none kVaz0 dcaz0 pmaz0 anaz0 cdaz0 ctaz0), slaz0⟩) (caz0 : codeIn K cdaz0 "held_by" = true) (kaz0 : keepIn K (.ref faz0) = true) (abm0 : nsIn K mainGlobals "part_good" = some (some (.ref fbm0))) (lbm0 : K.lookup fbm0 = some ⟨ocbm0, odbm0, .func (fnOf "part_good" "part_good" (defArgs sbm0) (defBody sbm0) (defScope sbm0) .none kVbm0 dcbm0 pmbm0 anbm0 cdbm0 ctbm0), slbm0⟩) (cbm0 : codeIn K cdbm0 "part_good" = true) (kbm0 : keepIn K (.ref fbm0) = true) (abn0 : nsIn K mainGlobals "parts_good" = some (some (.ref fbn0))) (lbn0 : K.lookup fbn0 = some ⟨ocbn0, odbn0, .func (fnOf "parts_good" "parts_good" (defArgs sbn0) (defBody sbn0) (defScope sbn0) .none kVbn0 dcbn0 pmbn0 anbn0 cdbn0 ctbn0), slbn0⟩) (cbn0 : codeIn K cdbn0 "parts_good" = true) (kbn0 : keepIn K (.ref fbn0) = true) (aap0 : nsIn K mainGlobals "_law_sum" = some (some (.ref fap0))) (lap0 : K.lookup fap0 = some ⟨ocap0, odap0, .func (fnOf "_law_sum" "_law_sum" (defArgs sap0) (defBody sap0) (defScope sap0) .none kVap0 dcap0 pmap0 anap0 cdap0 ctap0), slap0⟩) (cap0 : codeIn K cdap0 "_law_sum" = true) (kap0 : keepIn K (.ref fap0) = true) (aaa0 : nsIn K mainGlobals "_law_all" = some (some (.ref faa0))) (laa0 : K.lookup faa0 = some ⟨ocaa0, odaa0, .func (fnOf "_law_all" "_law_all" (defArgs saa0) (defBody saa0) (defScope saa0) .none kVaa0 dcaa0 pmaa0 anaa0 cdaa0 ctaa0), slaa0⟩) (caa0 : codeIn K cdaa0 "_law_all" = true) (kaa0 : keepIn K (.ref faa0) = true) (aan0 : nsIn K mainGlobals "_law_right" = some (some (.ref fan0))) (lan0 : K.lookup fan0 = some ⟨ocan0, odan0, .func (fnOf "_law_right" "_law_right" (defArgs san0) (defBody san0) (defScope san0) .none kVan0 dcan0 pman0 anan0 cdan0 ctan0), slan0⟩) (can0 : codeIn K cdan0 "_law_right" = true) (kan0 : keepIn K (.ref fan0) = true) (aak0 : nsIn K mainGlobals "_law_out" = some (some (.ref fak0))) (lak0 : K.lookup fak0 = some ⟨ocak0, odak0, .func (fnOf "_law_out" "_law_out" (defArgs sak0) (defBody sak0) (defScope sak0) .none kVak0 dcak0 pmak0 anak0 cdak0 ctak0), slak0⟩) (cak0 : codeIn K cdak0 "_law_out" = true) (kak0 : keepIn K (.ref fak0) = true) (aal0 : nsIn K mainGlobals "_law_paper_holds" = some (some (.ref fal0))) (lal0 : K.lookup fal0 = some ⟨ocal0, odal0, .func (fnOf "_law_paper_holds" "_law_paper_holds" (defArgs sal0) (defBody sal0) (defScope sal0) .none kVal0 dcal0 pmal0 anal0 cdal0 ctal0), slal0⟩) (cal0 : codeIn K cdal0 "_law_paper_holds" = true) (kal0 : keepIn K (.ref fal0) = true) (aac0 : nsIn K mainGlobals "_law_by_paper" = some (some (.ref fac0))) (lac0 : K.lookup fac0 = some ⟨ocac0, odac0, .func (fnOf "_law_by_paper" "_law_by_paper" (defArgs sac0) (defBody sac0) (defScope sac0) .none kVac0 dcac0 pmac0 anac0 cdac0 ctac0), slac0⟩) (cac0 : codeIn K cdac0 "_law_by_paper" = true) (kac0 : keepIn K (.ref fac0) = true) (aah0 : nsIn K mainGlobals "_law_lists" = some (some (.ref fah0))) (lah0 : K.lookup fah0 = some ⟨ocah0, odah0, .func (fnOf "_law_lists" "_law_lists" (defArgs sah0) (defBody sah0) (defScope sah0) .none kVah0 dcah0 pmah0 anah0 cdah0 ctah0), slah0⟩) (cah0 : codeIn K cdah0 "_law_lists" = true) (kah0 : keepIn K (.ref fah0) = true) (aaf0 : nsIn K mainGlobals "_law_good_asked" = some (some (.ref faf0))) (laf0 : K.lookup faf0 = some ⟨ocaf0, odaf0, .func (fnOf "_law_good_asked" "_law_good_asked" (defArgs saf0) (defBody saf0) (defScope saf0) .none kVaf0 dcaf0 pmaf0 anaf0 cdaf0 ctaf0), slaf0⟩) (caf0 : codeIn K cdaf0 "_law_good_asked" = true) (kaf0 : keepIn K (.ref faf0) = true) (aab0 : nsIn K mainGlobals "_law_alone" = some (some (.ref fab0))) (lab0 : K.lookup fab0 = some ⟨ocab0, odab0, .func (fnOf "_law_alone" "_law_alone" (defArgs sab0) (defBody sab0) (defScope sab0) .none kVab0 dcab0 pmab0 anab0 cdab0 ctab0), slab0⟩) (cab0 : codeIn K cdab0 "_law_alone" = true) (kab0 : keepIn K (.ref fab0) = true) (abc0 : nsIn K mainGlobals "law" = some (some (.ref fbc0))) (lbc0 : K.lookup fbc0 = some ⟨ocbc0, odbc0, .func (fnOf "law" "law" (defArgs sbc0) (defBody sbc0) (defScope sbc0) .none kVbc0 dcbc0 pmbc0 anbc0 cdbc0 ctbc0), slbc0⟩) (cbc0 : codeIn K cdbc0 "law" = true) (kbc0 : keepIn K (.ref fbc0) = true) :
 ∃ fd : FuncData, (∀ (s : Shared) (v : Value), BindsTo s fd ⟨[v], []⟩ [("_law_script", v)]) ∧ ∀ base : Heap, K.In base → base.Ns mainGlobals mg → FnOk l.prog w K mg base CX0 true 11 fa fd ["_law_script"] (spLaw K) := by
 have e := hfa.symm.trans (mg_of X G abc0)
 cases e
 have z_sum := mg_none_of X G nz_sum
 have z_sorted := mg_none_of X G nz_sorted
 have z_set := mg_none_of X G nz_set
 have z_len := mg_none_of X G nz_len
 have z_isinstance := mg_none_of X G nz_isinstance
 have z_int := mg_none_of X G nz_int
 have z_bool := mg_none_of X G nz_bool
 have z_range := mg_none_of X G nz_range
 have z_min := mg_none_of X G nz_min
 have z_any := mg_none_of X G nz_any
 have z_dict := mg_none_of X G nz_dict
 have z_abs := mg_none_of X G nz_abs
 have z_enumerate := mg_none_of X G nz_enumerate
 have z_list := mg_none_of X G nz_list
 have z_zip := mg_none_of X G nz_zip
 have z_all := mg_none_of X G nz_all
 refine ⟨fnOf "law" "law" (defArgs sbc0) (defBody sbc0) (defScope sbc0) .none kVbc0 dcbc0 pmbc0 anbc0 cdbc0 ctbc0, fun s v => .of_eq rfl, fun base _ _ => ?_⟩
 have qbp0 := okbp0 (P := l.prog) (w := w) (base := base) ⟨fbp0, _, Qaq (st := sbp0) lbp0 cbp0 kbp0, mg_of X G abp0⟩ z_sum
 have qar0 := okar0 (P := l.prog) (w := w) (base := base) ⟨far0, _, Qaq (st := sar0) lar0 car0 kar0, mg_of X G aar0⟩ z_sum
 have qbj0 := okbj0 (P := l.prog) (w := w) (base := base) ⟨fbj0, _, Qaq (st := sbj0) lbj0 cbj0 kbj0, mg_of X G abj0⟩ z_sorted z_set
 have qbs0 := okbs0 (P := l.prog) (w := w) (base := base) ⟨fbs0, _, Qaq (st := sbs0) lbs0 cbs0 kbs0, mg_of X G abs0⟩ z_sorted z_set
 have qad0 := okad0 (P := l.prog) (w := w) (base := base) (cm := true) ⟨fad0, _, Qaq (st := sad0) lad0 cad0 kad0, mg_of X G aad0⟩ z_len
 have qaq0 := okaq0 (P := l.prog) (w := w) (base := base) (cm := true) ⟨faq0, _, Qaq (st := saq0) laq0 caq0 kaq0, mg_of X G aaq0⟩ z_isinstance z_int z_bool q_ib
 have qai0 := okai0 (P := l.prog) (w := w) (base := base) (cm := true) ⟨fai0, _, Qaq (st := sai0) lai0 cai0 kai0, mg_of X G aai0⟩
 have qaj0 := okaj0 (P := l.prog) (w := w) (base := base) ⟨faj0, _, Qaq (st := saj0) laj0 caj0 kaj0, mg_of X G aaj0⟩ z_range z_int
 have qam0 := okam0 (P := l.prog) (w := w) (base := base) ⟨fam0, _, Qaq (st := sam0) lam0 cam0 kam0, mg_of X G aam0⟩ qad0 qaj0 qai0 z_min
 have qao0 := okao0 (P := l.prog) (w := w) (base := base) (cm := true) ⟨fao0, _, Qaq (st := sao0) lao0 cao0 kao0, mg_of X G aao0⟩
 have qae0 := okae0 (P := l.prog) (w := w) (base := base) ⟨fae0, _, Qaq (st := sae0) lae0 cae0 kae0, mg_of X G aae0⟩ qad0 qai0 qao0 z_len z_range
 have qag0 := okag0 (P := l.prog) (w := w) (base := base) ⟨fag0, _, Qaq (st := sag0) lag0 cag0 kag0, mg_of X G aag0⟩ z_sum
 have qbd0 := okbd0 (P := l.prog) (w := w) (base := base) ⟨fbd0, _, Qaq (st := sbd0) lbd0 cbd0 kbd0, mg_of X G abd0⟩ qbj0 z_any
 have qbf0 := okbf0 (P := l.prog) (w := w) (base := base) ⟨fbf0, _, Qaq (st := sbf0) lbf0 cbf0 kbf0, mg_of X G abf0⟩ qbd0 z_dict
 have qbo0 := okbo0 (P := l.prog) (w := w) (base := base) ⟨fbo0, _, Qaq (st := sbo0) lbo0 cbo0 kbo0, mg_of X G abo0⟩ qbf0 z_sorted
 have qav0 := okav0 (P := l.prog) (w := w) (base := base) (cm := true) ⟨fav0, _, Qaq (st := sav0) lav0 cav0 kav0, mg_of X G aav0⟩ z_abs
 have qbh0 := okbh0 (P := l.prog) (w := w) (base := base) ⟨fbh0, _, Qaq (st := sbh0) lbh0 cbh0 kbh0, mg_of X G abh0⟩ z_range
 have qbw0 := okbw0 (P := l.prog) (w := w) (base := base) ⟨fbw0, _, Qaq (st := sbw0) lbw0 cbw0 kbw0, mg_of X G abw0⟩ qbh0 z_len z_enumerate z_list
 have qbe0 := okbe0 (P := l.prog) (w := w) (base := base) ⟨fbe0, _, Qaq (st := sbe0) lbe0 cbe0 kbe0, mg_of X G abe0⟩ qav0
 have qau0 := okau0 (P := l.prog) (w := w) (base := base) ⟨fau0, _, Qaq (st := sau0) lau0 cau0 kau0, mg_of X G aau0⟩ qbe0 z_zip
 have qax0 := okax0 (P := l.prog) (w := w) (base := base) ⟨fax0, _, Qaq (st := sax0) lax0 cax0 kax0, mg_of X G aax0⟩ z_enumerate
 have qbv0 := okbv0 (P := l.prog) (w := w) (base := base) ⟨fbv0, _, Qaq (st := sbv0) lbv0 cbv0 kbv0, mg_of X G abv0⟩ qbw0 qax0 qau0 z_range z_len
 have qbk0 := okbk0 (P := l.prog) (w := w) (base := base) ⟨fbk0, _, Qaq (st := sbk0) lbk0 cbk0 kbk0, mg_of X G abk0⟩
 have qbl0 := okbl0 (P := l.prog) (w := w) (base := base) ⟨fbl0, _, Qaq (st := sbl0) lbl0 cbl0 kbl0, mg_of X G abl0⟩ qbv0 qbk0 z_len z_enumerate
 have qbq0 := okbq0 (P := l.prog) (w := w) (base := base) ⟨fbq0, _, Qaq (st := sbq0) lbq0 cbq0 kbq0, mg_of X G abq0⟩ qbp0 qar0 z_enumerate
 have qas0 := okas0 (P := l.prog) (w := w) (base := base) ⟨fas0, _, Qaq (st := sas0) las0 cas0 kas0, mg_of X G aas0⟩ qbj0 qbo0
 have qat0 := okat0 (P := l.prog) (w := w) (base := base) ⟨fat0, _, Qaq (st := sat0) lat0 cat0 kat0, mg_of X G aat0⟩ qas0 qbl0 qbq0
 have qay0 := okay0 (P := l.prog) (w := w) (base := base) ⟨fay0, _, Qaq (st := say0) lay0 cay0 kay0, mg_of X G aay0⟩ lTay0 qav0
 have qbr0 := okbr0 (P := l.prog) (w := w) (base := base) ⟨fbr0, _, Qaq (st := sbr0) lbr0 cbr0 kbr0, mg_of X G abr0⟩ qay0 z_sum z_zip
 have qbb0 := okbb0 (P := l.prog) (w := w) (base := base) ⟨fbb0, _, Qaq (st := sbb0) lbb0 cbb0 kbb0, mg_of X G abb0⟩ qat0 qbs0 qbp0 qbr0
 have qbi0 := okbi0 (P := l.prog) (w := w) (base := base) ⟨fbi0, _, Qaq (st := sbi0) lbi0 cbi0 kbi0, mg_of X G abi0⟩ qay0
 have qaw0 := okaw0 (P := l.prog) (w := w) (base := base) ⟨faw0, _, Qaq (st := saw0) law0 caw0 kaw0, mg_of X G aaw0⟩ qat0 qay0 qbi0 z_enumerate
 have qbg0 := okbg0 (P := l.prog) (w := w) (base := base) ⟨fbg0, _, Qaq (st := sbg0) lbg0 cbg0 kbg0, mg_of X G abg0⟩ qay0
 have qba0 := okba0 (P := l.prog) (w := w) (base := base) (cm := true) ⟨fba0, _, Qaq (st := sba0) lba0 cba0 kba0, mg_of X G aba0⟩ qav0
 have qbu0 := okbu0 (P := l.prog) (w := w) (base := base) ⟨fbu0, _, Qaq (st := sbu0) lbu0 cbu0 kbu0, mg_of X G abu0⟩ qay0
 have qbt0 := okbt0 (P := l.prog) (w := w) (base := base) ⟨fbt0, _, Qaq (st := sbt0) lbt0 cbt0 kbt0, mg_of X G abt0⟩ qay0 qba0 qbg0
 have qaz0 := okaz0 (P := l.prog) (w := w) (base := base) ⟨faz0, _, Qaq (st := saz0) laz0 caz0 kaz0, mg_of X G aaz0⟩ qay0 qbp0 qbu0 qbt0 z_zip
 have qbm0 := okbm0 (P := l.prog) (w := w) (base := base) ⟨fbm0, _, Qaq (st := sbm0) lbm0 cbm0 kbm0, mg_of X G abm0⟩ qbg0 qay0 qbu0 qar0 qaz0
 have qbn0 := okbn0 (P := l.prog) (w := w) (base := base) ⟨fbn0, _, Qaq (st := sbn0) lbn0 cbn0 kbn0, mg_of X G abn0⟩ qbm0 z_len z_any z_all z_range
 have qap0 := okap0 (P := l.prog) (w := w) (base := base) ⟨fap0, _, Qaq (st := sap0) lap0 cap0 kap0, mg_of X G aap0⟩
 have qaa0 := okaa0 (P := l.prog) (w := w) (base := base) ⟨faa0, _, Qaq (st := saa0) laa0 caa0 kaa0, mg_of X G aaa0⟩ z_sum
 have qan0 := okan0 (P := l.prog) (w := w) (base := base) ⟨fan0, _, Qaq (st := san0) lan0 can0 kan0, mg_of X G aan0⟩ qag0 qap0 qaa0 z_len z_range
 have qak0 := okak0 (P := l.prog) (w := w) (base := base) ⟨fak0, _, Qaq (st := sak0) lak0 cak0 kak0, mg_of X G aak0⟩ z_range z_len
 have qal0 := okal0 (P := l.prog) (w := w) (base := base) ⟨fal0, _, Qaq (st := sal0) lal0 cal0 kal0, mg_of X G aal0⟩ qaq0 qaa0 qag0 z_range z_len z_int
 have qac0 := okac0 (P := l.prog) (w := w) (base := base) ⟨fac0, _, Qaq (st := sac0) lac0 cac0 kac0, mg_of X G aac0⟩ qag0 z_range z_len z_sum
 have qah0 := okah0 (P := l.prog) (w := w) (base := base) ⟨fah0, _, Qaq (st := sah0) lah0 cah0 kah0, mg_of X G aah0⟩ qai0 qap0 z_len
 have qaf0 := okaf0 (P := l.prog) (w := w) (base := base) ⟨faf0, _, Qaq (st := saf0) laf0 caf0 kaf0, mg_of X G aaf0⟩ qbn0 qan0 z_list z_isinstance z_bool
 have qab0 := okab0 (P := l.prog) (w := w) (base := base) ⟨fab0, _, Qaq (st := sab0) lab0 cab0 kab0, mg_of X G aab0⟩ qae0 qad0
 exact okbc0 (P := l.prog) (w := w) (base := base) (Qaq (st := sbc0) lbc0 cbc0 kbc0) qam0 qab0 qak0 qbl0 qbq0 qbb0 qaw0 qal0 qac0 qad0 qai0 qah0 qaf0 z_len z_list
theorem walk {l : PySem.W.OpenLaw} {q : Program} {loose : List Str} {XP : (Str → Option Value) → Heap → Prop} {YP : World → Heap → Prop} {d : DefRec} {K : Params → PySem.W.Frag} (hn : l.most = some 63) (hdf : d.params.defaults = [])
 (hY : ∀ (w : World) (h : Heap), YP w h → (K w.params).In h)
 (F : ∀ (w : World) (mg : Str → Option Value) (fa : Addr) (h : Heap), (K w.params).In h → h.Ns mainGlobals mg → mg d.name = some (.ref fa) →
  ∃ fd : FuncData, (∀ (s : Shared) (u : Value), BindsTo s fd ⟨[u], []⟩ [("_law_script", u)]) ∧ ∀ base : Heap, (K w.params).In base → base.Ns mainGlobals mg → FnOk l.prog w (K w.params) mg base CX0 true 11 fa fd ["_law_script"] (spLaw (K w.params))) :
 PySem.W.WalkO q loose XP YP l.row.toRowW d [] (fun f vs => PySem.call f vs) :=
 L2.Qjk (n := 63) (k := 11) (x := "_law_script") (CX := fun _ => CX0) (sp := fun w => spLaw (K w.params)) hn (by decide) hdf ⟨fun _ => rfl, by decide, by decide⟩ hY F (fun _ _ a ns hl hb _ hS => ⟨a, ns, rfl, hS, hl, hb, fun _ => rfl⟩) fun _ _ _ _ _ z => z
end K49
open PySem PySem.W PyProof.Rows
set_option maxRecDepth 100000 in
set_option maxHeartbeats 0 in
theorem PySem.Challenge.cw_groupbooks_k49_whole_one_and_only_holds : PySem.Challenge.rw_groupbooks_k49_whole_one_and_only.Holds := by
 refine K49.headTop ?_
 k_fill
 refine K49.walk (l := PySem.Challenge.rw_groupbooks_k49_whole_one_and_only) rfl rfl (fun w h Y => PySem.W.kIn_of Y) ?F
 case F =>
  intro w mg fa h KX G hmg
  refine' K49.all_mk KX G hmg ?nz_sum ?nz_sorted ?nz_set ?nz_len ?nz_isinstance ?nz_int ?nz_bool ?nz_range ?nz_min ?nz_any ?nz_dict ?nz_abs ?nz_enumerate ?nz_list ?nz_zip ?nz_all ?q_ib ?abp0 ?lbp0 ?cbp0 ?kbp0 ?aar0 ?lar0 ?car0 ?kar0 ?abj0 ?lbj0 ?cbj0 ?kbj0 ?abs0 ?lbs0 ?cbs0 ?kbs0 ?aad0 ?lad0 ?cad0 ?kad0 ?aaq0 ?laq0 ?caq0 ?kaq0 ?aai0 ?lai0 ?cai0 ?kai0 ?aaj0 ?laj0 ?caj0 ?kaj0 ?aam0 ?lam0 ?cam0 ?kam0 ?aao0 ?lao0 ?cao0 ?kao0 ?aae0 ?lae0 ?cae0 ?kae0 ?aag0 ?lag0 ?cag0 ?kag0 ?abd0 ?lbd0 ?cbd0 ?kbd0 ?abf0 ?lbf0 ?cbf0 ?kbf0 ?abo0 ?lbo0 ?cbo0 ?kbo0 ?aav0 ?lav0 ?cav0 ?kav0 ?abh0 ?lbh0 ?cbh0 ?kbh0 ?abw0 ?lbw0 ?cbw0 ?kbw0 ?abe0 ?lbe0 ?cbe0 ?kbe0 ?aau0 ?lau0 ?cau0 ?kau0 ?aax0 ?lax0 ?cax0 ?kax0 ?abv0 ?lbv0 ?cbv0 ?kbv0 ?abk0 ?lbk0 ?cbk0 ?kbk0 ?abl0 ?lbl0 ?cbl0 ?kbl0 ?abq0 ?lbq0 ?cbq0 ?kbq0 ?aas0 ?las0 ?cas0 ?kas0 ?aat0 ?lat0 ?cat0 ?kat0 ?aay0 ?lay0 ?cay0 ?kay0 ?lTay0 ?abr0 ?lbr0 ?cbr0 ?kbr0 ?abb0 ?lbb0 ?cbb0 ?kbb0 ?abi0 ?lbi0 ?cbi0 ?kbi0 ?aaw0 ?law0 ?caw0 ?kaw0 ?abg0 ?lbg0 ?cbg0 ?kbg0 ?aba0 ?lba0 ?cba0 ?kba0 ?abu0 ?lbu0 ?cbu0 ?kbu0 ?abt0 ?lbt0 ?cbt0 ?kbt0 ?aaz0 ?laz0 ?caz0 ?kaz0 ?abm0 ?lbm0 ?cbm0 ?kbm0 ?abn0 ?lbn0 ?cbn0 ?kbn0 ?aap0 ?lap0 ?cap0 ?kap0 ?aaa0 ?laa0 ?caa0 ?kaa0 ?aan0 ?lan0 ?can0 ?kan0 ?aak0 ?lak0 ?cak0 ?kak0 ?aal0 ?lal0 ?cal0 ?kal0 ?aac0 ?lac0 ?cac0 ?kac0 ?aah0 ?lah0 ?cah0 ?kah0 ?aaf0 ?laf0 ?caf0 ?kaf0 ?aab0 ?lab0 ?cab0 ?kab0 ?abc0 ?lbc0 ?cbc0 ?kbc0
  (case nz_sum => k_is)
  (case nz_sorted => k_is)
  (case nz_set => k_is)
  (case nz_len => k_is)
  (case nz_isinstance => k_is)
  (case nz_int => k_is)
  (case nz_bool => k_is)
  (case nz_range => k_is)
  (case nz_min => k_is)
  (case nz_any => k_is)
  (case nz_dict => k_is)
  (case nz_abs => k_is)
  (case nz_enumerate => k_is)
  (case nz_list => k_is)
  (case nz_zip => k_is)
  (case nz_all => k_is)
  (case abp0 => k_is)
  (case lbp0 => k_is)
  (case cbp0 => k_is)
  (case kbp0 => k_is)
  (case aar0 => k_is)
  (case lar0 => k_is)
  (case car0 => k_is)
  (case kar0 => k_is)
  (case abj0 => k_is)
  (case lbj0 => k_is)
  (case cbj0 => k_is)
  (case kbj0 => k_is)
  (case abs0 => k_is)
  (case lbs0 => k_is)
  (case cbs0 => k_is)
  (case kbs0 => k_is)
  (case aad0 => k_is)
  (case lad0 => k_is)
  (case cad0 => k_is)
  (case kad0 => k_is)
  (case aaq0 => k_is)
  (case laq0 => k_is)
  (case caq0 => k_is)
  (case kaq0 => k_is)
  (case aai0 => k_is)
  (case lai0 => k_is)
  (case cai0 => k_is)
  (case kai0 => k_is)
  (case aaj0 => k_is)
  (case laj0 => k_is)
  (case caj0 => k_is)
  (case kaj0 => k_is)
  (case aam0 => k_is)
  (case lam0 => k_is)
  (case cam0 => k_is)
  (case kam0 => k_is)
  (case aao0 => k_is)
  (case lao0 => k_is)
  (case cao0 => k_is)
  (case kao0 => k_is)
  (case aae0 => k_is)
  (case lae0 => k_is)
  (case cae0 => k_is)
  (case kae0 => k_is)
  (case aag0 => k_is)
  (case lag0 => k_is)
  (case cag0 => k_is)
  (case kag0 => k_is)
  (case abd0 => k_is)
  (case lbd0 => k_is)
  (case cbd0 => k_is)
  (case kbd0 => k_is)
  (case abf0 => k_is)
  (case lbf0 => k_is)
  (case cbf0 => k_is)
  (case kbf0 => k_is)
  (case abo0 => k_is)
  (case lbo0 => k_is)
  (case cbo0 => k_is)
  (case kbo0 => k_is)
  (case aav0 => k_is)
  (case lav0 => k_is)
  (case cav0 => k_is)
  (case kav0 => k_is)
  (case abh0 => k_is)
  (case lbh0 => k_is)
  (case cbh0 => k_is)
  (case kbh0 => k_is)
  (case abw0 => k_is)
  (case lbw0 => k_is)
  (case cbw0 => k_is)
  (case kbw0 => k_is)
  (case abe0 => k_is)
  (case lbe0 => k_is)
  (case cbe0 => k_is)
  (case kbe0 => k_is)
  (case aau0 => k_is)
  (case lau0 => k_is)
  (case cau0 => k_is)
  (case kau0 => k_is)
  (case aax0 => k_is)
  (case lax0 => k_is)
  (case cax0 => k_is)
  (case kax0 => k_is)
  (case abv0 => k_is)
  (case lbv0 => k_is)
  (case cbv0 => k_is)
  (case kbv0 => k_is)
  (case abk0 => k_is)
  (case lbk0 => k_is)
  (case cbk0 => k_is)
  (case kbk0 => k_is)
  (case abl0 => k_is)
  (case lbl0 => k_is)
  (case cbl0 => k_is)
  (case kbl0 => k_is)
  (case abq0 => k_is)
  (case lbq0 => k_is)
  (case cbq0 => k_is)
  (case kbq0 => k_is)
  (case aas0 => k_is)
  (case las0 => k_is)
  (case cas0 => k_is)
  (case kas0 => k_is)
  (case aat0 => k_is)
  (case lat0 => k_is)
  (case cat0 => k_is)
  (case kat0 => k_is)
  (case aay0 => k_is)
  (case lay0 => k_is)
  (case cay0 => k_is)
  (case kay0 => k_is)
  (case lTay0 => k_is)
  (case abr0 => k_is)
  (case lbr0 => k_is)
  (case cbr0 => k_is)
  (case kbr0 => k_is)
  (case abb0 => k_is)
  (case lbb0 => k_is)
  (case cbb0 => k_is)
  (case kbb0 => k_is)
  (case abi0 => k_is)
  (case lbi0 => k_is)
  (case cbi0 => k_is)
  (case kbi0 => k_is)
  (case aaw0 => k_is)
  (case law0 => k_is)
  (case caw0 => k_is)
  (case kaw0 => k_is)
  (case abg0 => k_is)
  (case lbg0 => k_is)
  (case cbg0 => k_is)
  (case kbg0 => k_is)
  (case aba0 => k_is)
  (case lba0 => k_is)
  (case cba0 => k_is)
  (case kba0 => k_is)
  (case abu0 => k_is)
  (case lbu0 => k_is)
  (case cbu0 => k_is)
  (case kbu0 => k_is)
  (case abt0 => k_is)
  (case lbt0 => k_is)
  (case cbt0 => k_is)
  (case kbt0 => k_is)
  (case aaz0 => k_is)
  (case laz0 => k_is)
  (case caz0 => k_is)
  (case kaz0 => k_is)
  (case abm0 => k_is)
  (case lbm0 => k_is)
  (case cbm0 => k_is)
  (case kbm0 => k_is)
  (case abn0 => k_is)
  (case lbn0 => k_is)
  (case cbn0 => k_is)
  (case kbn0 => k_is)
  (case aap0 => k_is)
  (case lap0 => k_is)
  (case cap0 => k_is)
  (case kap0 => k_is)
  (case aaa0 => k_is)
  (case laa0 => k_is)
  (case caa0 => k_is)
  (case kaa0 => k_is)
  (case aan0 => k_is)
  (case lan0 => k_is)
  (case can0 => k_is)
  (case kan0 => k_is)
  (case aak0 => k_is)
  (case lak0 => k_is)
  (case cak0 => k_is)
  (case kak0 => k_is)
  (case aal0 => k_is)
  (case lal0 => k_is)
  (case cal0 => k_is)
  (case kal0 => k_is)
  (case aac0 => k_is)
  (case lac0 => k_is)
  (case cac0 => k_is)
  (case kac0 => k_is)
  (case aah0 => k_is)
  (case lah0 => k_is)
  (case cah0 => k_is)
  (case kah0 => k_is)
  (case aaf0 => k_is)
  (case laf0 => k_is)
  (case caf0 => k_is)
  (case kaf0 => k_is)
  (case aab0 => k_is)
  (case lab0 => k_is)
  (case cab0 => k_is)
  (case kab0 => k_is)
  (case abc0 => k_is)
  (case lbc0 => k_is)
  (case cbc0 => k_is)
  (case kbc0 => k_is)
  (case q_ib => kernel_rfl)
#print axioms PySem.Challenge.cw_groupbooks_k49_whole_one_and_only_holds
