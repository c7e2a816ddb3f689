import PyProof.Rows.All
import Wide.All
import OpenK.AllK
import Wide.FinOn
import Lean
import PyProof.EqAt
import PyProof.EqKinds
import PyProof.TupleCall
import PyProof.StationsW
import PyProof.RulesAs
import PyProof.ExcClass2
import PyProof.ExcInit
import PyProof.InstStore
import PyProof.ExcBaseAll.ValueError
import PyProof.ExcArgs
import PyProof.IsiBase
import PyProof.NsDelKeeps
import PyProof.CompFree
import PyProof.CompUse
import KE.LcSums
import PyProof.Rows.SortWalk
import PyProof.DictWalks
import PyProof.Rows.MinMaxN
import PyProof.Rows.DictUnroll
import PyProof.StrBlockI
import PyProof.NeKinds
import PyProof.AutoListH
import KE.KItemsList
import KE.RegMulBits
import KE.KDictOf
import PyProof.AttrMissHeap
import KE.KDictList
import KE.KRevIter
import PySem.Challenge.RW_groupbooks_k16_rates_by_day
set_option maxHeartbeats 4000000
section
open PySem PySem.W PyProof.Rows
set_option maxRecDepth 100000
set_option maxHeartbeats 0
noncomputable def K16.runTop (p : Program) (w : World) (m : Nat) : Nat → SharedT → Thread → Option SharedT
  | 0, _, _ => none
  | k + 1, s, t => match through t with
    | true => some s
    | false => match PySem.W.Fast.tw6613529449190102663 m (some (.ref 6)) t with
      | false => none
      | true => match PySem.W.Fast.tw10156331382660048174 (PySem.W.Fast.tw11892475500146522536 treeTable) p w s t with
        | some x => K16.runTop p w m k x.1 x.2
        | none => none
theorem K16.runTop_eq (p : Program) (w : World) (m : Nat) : ∀ (k : Nat) (s s' : SharedT) (t : Thread),
    K16.runTop p w m k s t = some s' → topRun treeTable p w m (some (.ref 6)) k s.abs t = some s'.abs
  | 0, _, _, _, h => by cases h
  | k + 1, s, s', t, h => by
    unfold K16.runTop at h
    unfold topRun
    cases hT : through t with
    | true => rw [hT] at h; cases h; rfl
    | false =>
      rw [hT] at h
      dsimp only at h ⊢
      rw [← PySem.W.Fast.te6613529449190102663] at h
      cases hk : stepOk m (some (.ref 6)) t with
      | false => rw [hk] at h; exact absurd h (by simp)
      | true =>
        rw [hk] at h
        dsimp only at h ⊢
        rw [← PySem.W.Fast.te10156331382660048174, ← PySem.W.Fast.te11892475500146522536] at h
        cases hs : stepT (denote treeTable) p w s t with
        | none => rw [hs] at h; exact absurd h (by simp)
        | some x =>
          rw [hs] at h
          rw [stepT_spec (s' := x.1) (t' := x.2) hs]
          exact K16.runTop_eq p w m k _ _ _ h
noncomputable def K16.bootT (P : Params) : BT := ((boot_heap P).objs.toList.foldl (fun a o => (a.1.ins a.2 o, a.2 + 1)) (BT.nil, 0)).1
theorem K16.boot_is (P : Params) : absHeap (K16.bootT P) 11 (boot_heap P).life = boot_heap P := by kernel_rfl
theorem K16.boot_has (P : Params) : ((boot_heap P).isNs mainGlobals, (boot_heap P).objs.size, (boot_heap P).nsMap mainGlobals "__annotations__") = (true, 11, some (.ref 6)) := by kernel_rfl
theorem K16.leftAtOnce {p q : Program} {lo : List Str} {A : Shared → Bool} {β : Type} {B : Shared → β} {D : World → β} {N : Nat} {g : Bool}
    (e : opening p = plainProg p.main.scope.names) (f : ∀ s, fenceModules? p s = some s) (hN : Nat.ble 600 N = true)
    (h : ∀ (w : World) (os : OsState), (K16.runTop p w 11 N ⟨K16.bootT w.params, 11, (boot_heap w.params).life, Array.mk [], boot_drawn, boot_toks, os⟩ (topStub p)).map
      (fun s => (staticsOk (importedModules p.main.body) (boot_heap w.params) s.abs.heap && namesBound p s.abs.heap && gensDone s.abs && laidKept (boot_heap w.params) s.abs.heap,
        openSeen q lo (importedModules p.main.body) A g s.abs, B s.abs)) = some (true, openGood q lo, D w)) : LeftO p q lo A B D N g := by
  intro w
  obtain ⟨⟨hh, gs, d, k, os⟩, e1, e2⟩ := Option.map_eq_some_iff.mp (boot_open e hN f w)
  obtain ⟨rfl, rfl, rfl, rfl⟩ : hh = boot_heap w.params ∧ gs = Array.mk [] ∧ d = boot_drawn ∧ k = boot_toks := by simpa using e2
  obtain ⟨s, h1, h2⟩ := Option.map_eq_some_iff.mp (h w os)
  have h3 := K16.runTop_eq _ _ _ _ _ _ _ h1
  have h4 := K16.boot_has w.params
  simp only [Prod.mk.injEq] at h2 h4
  unfold openEnds
  rw [e1]
  change Option.map _ (topFrom treeTable p w N _) = _
  unfold topFrom
  dsimp only
  rw [h4.1, h4.2.1, h4.2.2]
  have h5 : SharedT.abs ⟨K16.bootT w.params, 11, (boot_heap w.params).life, Array.mk [], boot_drawn, boot_toks, os⟩ = ⟨boot_heap w.params, Array.mk [], boot_drawn, boot_toks, os⟩ := by
    unfold SharedT.abs
    rw [K16.boot_is]
  rw [h5] at h3
  show ((topRun treeTable p w 11 (some (.ref 6)) N _ _).bind _).map _ = _
  rw [h3]
  dsimp only [Option.bind]
  rw [h2.1]
  show some (_, _) = _
  rw [h2.2.1, h2.2.2]
def K16.sieve {α : Type} : List α → List Bool → List α
  | a :: l, b :: m => bif b then a :: sieve l m else sieve l m
  | _, _ => []
def K16.headView : Program := { PySem.Challenge.pw_groupbooks_k16_rates_by_day with main := { PySem.Challenge.pw_groupbooks_k16_rates_by_day.main with
  body := K16.sieve PySem.Challenge.pw_groupbooks_k16_rates_by_day.main.body [false, false, false, false, false, false, false, false, false, false, false, false, false, false, false, false, false, false, false, false, false, false, false, false, false, false, false, false, false, false, false, false, false, false, false, false, false, false, false, false, true] } }
set_option hygiene false in
local macro_rules | `(tactic| o_head $H) => `(tactic|
  refine holds_open (q := K16.headView) (loose := [PySem.Str.ofString "_wall", PySem.Str.ofString "BooksError", PySem.Str.ofString "NoNumber", PySem.Str.ofString "NoRate", PySem.Str.ofString "Twice", PySem.Str.ofString "Unbalanced", PySem.Str.ofString "Closed", PySem.Str.ofString "BadPaper", PySem.Str.ofString "NoFirm", PySem.Str.ofString "BadAmount", PySem.Str.ofString "Unheld", PySem.Str.ofString "Ringed", PySem.Str.ofString "Singular", PySem.Str.ofString "NoSister", PySem.Str.ofString "NoAccount", PySem.Str.ofString "NoGoods", PySem.Str.ofString "TooFew", PySem.Str.ofString "NoDeed", PySem.Str.ofString "Broken", PySem.Str.ofString "NoRow", PySem.Str.ofString "divisor", PySem.Str.ofString "fraction", PySem.Str.ofString "Rates", PySem.Str.ofString "_law_cell", PySem.Str.ofString "_law_whole", PySem.Str.ofString "_law_divisor", PySem.Str.ofString "_law_names", PySem.Str.ofString "_law_top", PySem.Str.ofString "_law_other", PySem.Str.ofString "_law_named", PySem.Str.ofString "_law_due", PySem.Str.ofString "_law_asked", PySem.Str.ofString "_law_answer", PySem.Str.ofString "_law_told", PySem.Str.ofString "_law_row", PySem.Str.ofString "_law_all_asked"]) (N := 20000)
    (Yf := Hook.obs $H) (Ya := Hook.val $H) (YP := Hook.says $H)
    (XP := XL K16.headView []) (Xt := fun s => xlAt K16.headView [] s && recOk (RowW.records (OpenRow.toRowW (OpenLaw.row PySem.Challenge.rw_groupbooks_k16_rates_by_day))) s)
    (K16.leftAtOnce (by kernel_rfl) (fun s => by kernel_rfl) rfl (fun w os => by kernel_rfl)) (Hook.of $H) (Hook.keeps $H)
    (fun s e => xl_of s (Bool.and_eq_true_iff.mp e).1)
    XL.keeps (by rfl) (by rfl) (by rfl)
    (fun s e => recFacts_of (Bool.and_eq_true_iff.mp e).2) (by rfl) (by assumption) (by decide +kernel)
    ⟨rfl, rfl, rfl, rfl, rfl, by decide +kernel⟩ ?hw ?hc)
open_top K16.headTop for PySem.Challenge.rw_groupbooks_k16_rates_by_day
end
set_option Elab.async false
set_option linter.all false
set_option maxRecDepth 100000
namespace L2
open PySem PySem.Spec PyProof.Rows

/-- a key: an int or a str -/
abbrev Key := Sum Int Str
def keyIs : Key → Value → Bool
  | .inl k, v => Value.isInt k v
  | .inr x, v => Value.isStrOf x v
def keyH (w : World) : Key → Int
  | .inl k => hashInt k
  | .inr x => hashStr w x
theorem keyIs_shape : ∀ {k : Key} {v : Value}, keyIs k v = true → (∃ i t, k = Sum.inl i ∧ v = Value.int i t) ∨ (∃ x t, k = Sum.inr x ∧ v = Value.str x t)
  | .inl i, v, h => by
    obtain ⟨t, e⟩ := Value.isInt_shape (k := i) (v := v) h
    exact .inl ⟨i, t, rfl, e⟩
  | .inr x, v, h => by
    obtain ⟨t, e⟩ := Value.isStrOf_shape (x := x) (v := v) h
    exact .inr ⟨x, t, rfl, e⟩
theorem keyIs_int (i : Int) (t : Tok) : keyIs (.inl i) (.int i t) = true := by simp [keyIs, Value.isInt]
theorem keyIs_str (x : Str) (t : Tok) : keyIs (.inr x) (.str x t) = true := by simp [keyIs, Value.isStrOf]
theorem key_ll (a b : Int) : decide ((Sum.inl a : Key) = Sum.inl b) = (a == b) := by
  by_cases e : a = b
  · subst e; simp
  · have h : ¬ (Sum.inl a : Key) = Sum.inl b := fun q => e (Sum.inl.inj q)
    rw [decide_eq_false h]
    exact (beq_eq_false_iff_ne.mpr e).symm
theorem key_rr (a b : Str) : decide ((Sum.inr a : Key) = Sum.inr b) = decide (a = b) := by
  by_cases e : a = b
  · subst e; simp
  · have h : ¬ (Sum.inr a : Key) = Sum.inr b := fun q => e (Sum.inr.inj q)
    rw [decide_eq_false h, decide_eq_false e]
theorem key_lr (a : Int) (b : Str) : decide ((Sum.inl a : Key) = Sum.inr b) = false := decide_eq_false (fun q => nomatch q)
theorem key_rl (a : Str) (b : Int) : decide ((Sum.inr a : Key) = Sum.inl b) = false := decide_eq_false (fun q => nomatch q)

def mixKind (prog : Program) (w : World) : PySem.KeyKind prog w Key where
  is := keyIs
  hash := keyH w
  inj := fun v a b ha hb => by
    rcases keyIs_shape ha with ⟨i, t, rfl, rfl⟩ | ⟨x, t, rfl, rfl⟩
    · rcases keyIs_shape hb with ⟨j, u, rfl, e⟩ | ⟨y, u, rfl, e⟩
      · injection e with e1 _; rw [e1]
      · exact nomatch e
    · rcases keyIs_shape hb with ⟨j, u, rfl, e⟩ | ⟨y, u, rfl, e⟩
      · exact nomatch e
      · injection e with e1 _; rw [e1]
  byValue := fun k v h => by
    rcases keyIs_shape h with ⟨i, t, rfl, rfl⟩ | ⟨x, t, rfl, rfl⟩ <;> rfl
  pyHash := fun hv h => by
    rcases keyIs_shape hv with ⟨i, t, rfl, rfl⟩ | ⟨x, t, rfl, rfl⟩
    · exact wpAny_pyHash_int h
    · exact wpAny_pyHash_str h
  eqBool := fun hu hv h => by
    rcases keyIs_shape hu with ⟨i, t, rfl, rfl⟩ | ⟨x, t, rfl, rfl⟩
    · rcases keyIs_shape hv with ⟨j, u, rfl, rfl⟩ | ⟨y, u, rfl, rfl⟩
      · rw [key_ll] at h; exact wpAny_eqBool_int h
      · rw [key_lr] at h; exact SeqAt.EqAt.int_str i t y u _ _ _ _ h
    · rcases keyIs_shape hv with ⟨j, u, rfl, rfl⟩ | ⟨y, u, rfl, rfl⟩
      · rw [key_rl] at h; exact SeqAt.EqAt.str_int x t j u _ _ _ _ h
      · rw [key_rr] at h; exact wpAny_eqBool_str h
  «strs» := fun k x t v h => by
    rcases keyIs_shape h with ⟨i, u, rfl, e⟩ | ⟨y, u, rfl, e⟩
    · exact nomatch e
    · injection e with e1 _
      subst e1
      cases v <;> rfl

theorem mixKind_int (prog : Program) (w : World) (i : Int) (t : Tok) : (mixKind prog w).is (.inl i) (.int i t) = true := keyIs_int i t
theorem mixKind_str (prog : Program) (w : World) (x : Str) (t : Tok) : (mixKind prog w).is (.inr x) (.str x t) = true := keyIs_str x t
end L2

namespace L2
open PySem PySem.Spec PyProof.Rows

/-- a value, without the heap -/
inductive V where
  | non | bl (b : Bool) | int (i : Int) | str (x : Str) | byt (b : Array UInt8) | flt (b : UInt64) | ref (a : Addr) | ty (n : String)
  deriving DecidableEq

def RelV : V → Value → Prop
  | .non, u => u = Value.none
  | .bl b, u => u = Value.bool b
  | .int i, u => ∃ t, u = Value.int i t
  | .str x, u => ∃ t, u = Value.str x t
  | .byt b, u => ∃ t, u = Value.bytes b t
  | .flt b, u => ∃ t, u = Value.float b t
  | .ref a, u => u = Value.ref a
  | .ty n, u => u = Value.type n

abbrev Vals : List V → List Value → Prop := Paired RelV
theorem Vals.length {xs : List V} {us : List Value} (r : Vals xs us) : xs.length = us.length := Paired.length r
theorem Vals.get : ∀ {xs : List V} {us : List Value} {i : Nat} {x : V}, Vals xs us → xs[i]? = some x → ∃ u, us[i]? = some u ∧ RelV x u
  | _, _, _, _, .nil, e => by simp at e
  | _, _, 0, _, .cons r _, e => by simp at e; subst e; exact ⟨_, rfl, r⟩
  | _, _, i + 1, x, .cons _ t, e => by
    obtain ⟨u, h1, h2⟩ := Vals.get (i := i) (x := x) t (by simpa using e)
    exact ⟨u, by simpa using h1, h2⟩
theorem Vals.set {x : V} {u : Value} (r : RelV x u) : ∀ {xs : List V} {us : List Value} (i : Nat), Vals xs us → Vals (xs.set i x) (us.set i u)
  | _, _, _, .nil => .nil
  | _, _, 0, .cons _ t => .cons r t
  | _, _, i + 1, .cons q t => .cons q (Vals.set r i t)
theorem Vals.append : ∀ {xs ys : List V} {us ws : List Value}, Vals xs us → Vals ys ws → Vals (xs ++ ys) (us ++ ws)
  | _, _, _, _, .nil, s => s
  | _, _, _, _, .cons r t, s => .cons r (Vals.append t s)
theorem Vals.take : ∀ {xs : List V} {us : List Value} (n : Nat), Vals xs us → Vals (xs.take n) (us.take n)
  | _, _, 0, _ => .nil
  | _, _, _ + 1, .nil => .nil
  | _, _, n + 1, .cons r t => .cons r (Vals.take n t)
theorem Vals.drop : ∀ {xs : List V} {us : List Value} (n : Nat), Vals xs us → Vals (xs.drop n) (us.drop n)
  | _, _, 0, r => r
  | _, _, _ + 1, .nil => .nil
  | _, _, n + 1, .cons _ t => Vals.drop n t
theorem Vals.none_of : ∀ {xs : List V} {us : List Value} {i : Nat}, Vals xs us → xs[i]? = none → us[i]? = none := fun {xs us i} r e => by
  have h1 := r.length
  have h2 : xs.length ≤ i := List.getElem?_eq_none_iff.mp e
  exact List.getElem?_eq_none_iff.mpr (by omega)

def RelO : Option V → Option Value → Prop
  | some v, some u => RelV v u
  | none, none => True
  | _, _ => False
def KV {κ : Type} : List (κ × V) → List (κ × Value) → Prop := Paired fun (p : κ × V) (q : κ × Value) => p.1 = q.1 ∧ RelV p.2 q.2

/-- a key of a dict (00_mix): an int or a text -/
def kV : Key → V
  | .inl i => .int i
  | .inr x => .str x

/-- what stands at a tracked address -/
inductive HO where
  /-- a list -/
  | lst (xs : List V)
  /-- a tuple (never changes) -/
  | tup (xs : List V)
  /-- a dict whose keys are ints and texts; one whose keys are tuples of ints and texts (the empty one is both) -/
  | dK (kvs : List (Key × V)) | dT (kvs : List (List Key × V))
  /-- a set of ints: its members, its size -/
  | set (S : Int → Bool) (n : Nat)
  /-- an instance of the class at C, its dict at dx, its attributes -/
  | ins (C dx : Addr) (fs : List (Str × V))
  /-- the dict of the instance at x -/
  | own (x : Addr)
  /-- the dict of an exception -/
  | xd (fs : List (Str × V))
  /-- a bound method, f of x -/
  | met (f x : Addr)
  /-- a range object lo, lo + 1, .. below hi -/
  | rng (lo hi : Int)
  /-- a thing that is known to the object (the script; a dict while a loop walks it): read, never written while it is so -/
  | frz (o : Obj) (u : HO)
  /-- a code object's table -/
  | tbl (ps : Array Value)
  /-- any other thing, by what is true of its one object (a def of one's own: SetO a S n := HO.ext fun h => ..) -/
  | ext (φ : Heap → Prop)

abbrev Hp := Addr → Option HO
def upd (H : Hp) (a : Addr) (o : HO) : Hp := fun b => if b = a then some o else H b
theorem upd_same {H : Hp} {a : Addr} {o : HO} : upd H a o a = some o := by unfold upd; rw [if_pos rfl]
theorem upd_ne {H : Hp} {a b : Addr} {o : HO} (h : b ≠ a) : upd H a o b = H b := by unfold upd; rw [if_neg h]
/-- two objects of different content stand apart -/
theorem ne_of {H : Hp} {a b : Addr} {o u : HO} (h : H a = some o) (h' : H b = some u) (d : o ≠ u) : a ≠ b := by
  intro e; subst e; rw [h] at h'; exact d (Option.some.inj h')
theorem ne_of_none {H : Hp} {a b : Addr} {o : HO} (h : H a = some o) (h' : H b = none) : a ≠ b := by
  intro e; subst e; rw [h] at h'; cases h'

section
variable (P : Program) (w : World)
def ObjOk (H : Hp) (h : Heap) (a : Addr) : HO → Prop
  | .lst xs => xs.length ≤ sizeLine ∧ ∃ (its : List Value) (n : Nat), Vals xs its ∧ h.get? a = some { cls := .type "list", data := .seq its.toArray n }
  | .tup xs => xs.length ≤ sizeLine ∧ ∃ its : List Value, Vals xs its ∧ IsTup h a its.toArray
  | .dK kvs => kvs.length ≤ sizeLine ∧ (a == sysModules) = false ∧ ∃ vs, KV kvs vs ∧ h.DictOf (mixKind P w) a vs
  | .dT kvs => kvs.length ≤ sizeLine ∧ (a == sysModules) = false ∧ ∃ xs : List (List Key × Addr × Value),
      Paired (fun (p : List Key × V) (q : List Key × Addr × Value) => p.1 = q.1 ∧ H q.2.1 = some (.tup (p.1.map kV)) ∧ RelV p.2 q.2.2) kvs xs ∧
      ∃ o es ep, h.get? a = some o ∧ o.ExactDict ∧ o.data = .dict es ep ∧ es.toList = xs.map (entryOfKey (tupleKind (mixKind P w))) ∧ (xs.map (·.1)).Nodup
  | .set S n => h.SetOf (intKind P w) a S n
  | .ins C dx fs => H dx = some (.own a) ∧ fs.length ≤ 1000 ∧ dx ≠ a ∧ h.get? a = some (PySem.W.instObj C dx) ∧
      ∃ mA, h.Ns1 dx mA ∧ (∀ f, RelO (fs.lookup f) (mA f)) ∧ PySem.Within mA (fs.map (·.1))
  | .own _ => ∃ o, h.get? a = some o
  | .xd fs => ∃ mA, h.Ns1 a mA ∧ ∀ f, RelO (fs.lookup f) (mA f)
  | .rng lo hi => ∃ t u v, h.get? a = some { cls := .type "range", data := .fields #[.int lo t, .int hi u, .int 1 v] }
  | .frz o u => h.get? a = some o ∧ ObjOk H h a u
  | .tbl ps => h.get? a = some { cls := .none, data := .fields ps }
  | .met f x => h.get? a = some (PySem.W.methodObj (.ref f) (.ref x))
  | .ext φ => φ h ∧ (∃ o, h.get? a = some o) ∧ ∀ h1 h2 : Heap, φ h1 → (∀ o, h1.get? a = some o → h2.get? a = some o) → φ h2
/-- the abstract heap is held -/
def HOk (H : Hp) (h : Heap) : Prop := ∀ a o, H a = some o → ObjOk P w H h a o
end

section
variable {P : Program} {w : World} {H H' : Hp} {h h' : Heap} {a : Addr} {o : HO}
theorem ObjOk.lt (x : ObjOk P w H h a o) : a < h.objs.size := by
  cases o with
  | lst xs => obtain ⟨_, _, _, _, e⟩ := x; exact Heap.lt_size e
  | tup xs => obtain ⟨_, _, _, p⟩ := x; exact p.lt
  | dK kvs => obtain ⟨_, _, _, _, o, _, _, e, _⟩ := x; exact Heap.lt_size e
  | dT kvs => obtain ⟨_, _, _, _, o, _, _, e, _⟩ := x; exact Heap.lt_size e
  | set S n => obtain ⟨o, _, _, _, e, _⟩ := x; exact Heap.lt_size e
  | ins C dx fs => obtain ⟨_, _, _, e, _⟩ := x; exact Heap.lt_size e
  | own y => obtain ⟨_, e⟩ := x; exact Heap.lt_size e
  | xd fs => obtain ⟨_, ⟨_, _, _, e, _⟩, _⟩ := x; exact Heap.lt_size e
  | rng lo hi => obtain ⟨_, _, _, e⟩ := x; exact Heap.lt_size e
  | frz ob u => obtain ⟨e, _⟩ := x; exact Heap.lt_size e
  | tbl ps => exact Heap.lt_size (show h.get? a = some _ from x)
  | met f y => exact Heap.lt_size (show h.get? a = some _ from x)
  | ext φ => obtain ⟨_, ⟨_, e⟩, _⟩ := x; exact Heap.lt_size e
theorem Paired.mapP {α β : Type} {F G : α → β → Prop} : ∀ {l₁ : List α} {l₂ : List β}, Paired F l₁ l₂ → (∀ a b, F a b → G a b) → Paired G l₁ l₂
  | _, _, .nil, _ => .nil
  | _, _, .cons r t, f => .cons (f _ _ r) (Paired.mapP t f)
/-- what an object's description leans on: its own object, its own dict, the tuples -/
theorem ObjOk.stay (x : ObjOk P w H h a o) (k : ∀ b u, (b = a ∨ H b = some (.own a)) → h.get? b = some u → h'.get? b = some u)
    (ho : ∀ b, H b = some (.own a) → H' b = some (.own a)) (ht : ∀ b xs, H b = some (.tup xs) → H' b = some (.tup xs)) : ObjOk P w H' h' a o := by
  induction o with
  | lst xs => obtain ⟨z, its, n, r, e⟩ := x; exact ⟨z, its, n, r, k _ _ (.inl rfl) e⟩
  | tup xs => obtain ⟨z, its, r, ob, e, c⟩ := x; exact ⟨z, its, r, ob, k _ _ (.inl rfl) e, c⟩
  | dK kvs => obtain ⟨z, y, vs, r, ob, es, ep, e, c⟩ := x; exact ⟨z, y, vs, r, ob, es, ep, k _ _ (.inl rfl) e, c⟩
  | dT kvs =>
    obtain ⟨z, y, xs, r, ob, es, ep, e, c⟩ := x
    exact ⟨z, y, xs, Paired.mapP r fun p q z => ⟨z.1, ht _ _ z.2.1, z.2.2⟩, ob, es, ep, k _ _ (.inl rfl) e, c⟩
  | set S n => obtain ⟨ob, es, ep, t, e, c⟩ := x; exact ⟨ob, es, ep, t, k _ _ (.inl rfl) e, c⟩
  | ins C dx fs =>
    obtain ⟨d, z, ne, e, mA, ⟨od, es, ep, e2, c⟩, r⟩ := x
    exact ⟨ho _ d, z, ne, k _ _ (.inl rfl) e, mA, ⟨od, es, ep, k _ _ (.inr d) e2, c⟩, r⟩
  | own y => obtain ⟨ob, e⟩ := x; exact ⟨ob, k _ _ (.inl rfl) e⟩
  | xd fs => obtain ⟨mA, ⟨od, es, ep, e, c⟩, r⟩ := x; exact ⟨mA, ⟨od, es, ep, k _ _ (.inl rfl) e, c⟩, r⟩
  | rng lo hi => obtain ⟨t, u, v, e⟩ := x; exact ⟨t, u, v, k _ _ (.inl rfl) e⟩
  | frz ob u ih => obtain ⟨e, q⟩ := x; exact ⟨k _ _ (.inl rfl) e, ih q⟩
  | tbl ps =>
    have e : h.get? a = some { cls := .none, data := .fields ps } := x
    show h'.get? a = some { cls := .none, data := .fields ps }
    exact k a _ (.inl rfl) e
  | met f y =>
    have e : h.get? a = some (PySem.W.methodObj (.ref f) (.ref y)) := x
    show h'.get? a = some (PySem.W.methodObj (.ref f) (.ref y))
    exact k a _ (.inl rfl) e
  | ext φ => obtain ⟨p, ⟨o, e⟩, st⟩ := x; exact ⟨st _ _ p fun o q => k _ _ (.inl rfl) q, ⟨o, k _ _ (.inl rfl) e⟩, st⟩
theorem HOk.lt (x : HOk P w H h) (e : H a = some o) : a < h.objs.size := (x a o e).lt
theorem HOk.fresh (x : HOk P w H h) (e : h.objs.size ≤ a) : H a = none := by
  cases q : H a with
  | none => rfl
  | some u => exact absurd (Nat.lt_of_lt_of_le (x.lt q) e) (Nat.lt_irrefl _)
/-- every object of the heap is kept -/
theorem HOk.kept (x : HOk P w H h) (k : ∀ b u, h.get? b = some u → h'.get? b = some u) : HOk P w H h' := fun a o e =>
  (x a o e).stay (fun b u _ q => k b u q) (fun _ q => q) fun _ _ q => q
/-- a new object is laid and tracked -/
theorem HOk.laid (x : HOk P w H h) (k : ∀ b u, h.get? b = some u → h'.get? b = some u) (hp : h.objs.size ≤ a) (new : ObjOk P w (upd H a o) h' a o) : HOk P w (upd H a o) h' := fun b u e => by
  have hn := x.fresh hp
  by_cases hb : b = a
  · subst hb; rw [upd_same] at e; cases e; exact new
  · rw [upd_ne hb] at e
    exact (x b u e).stay (fun c v _ q => k c v q) (fun c q => by rw [upd_ne (ne_of_none q hn)]; exact q) fun c xs q => by rw [upd_ne (ne_of_none q hn)]; exact q
end

/-- what may be read as u: it is u, or a known u -/
def Rd (H : Hp) (a : Addr) (u : HO) : Prop := H a = some u ∨ ∃ o, H a = some (.frz o u)
theorem Rd.of {H : Hp} {a : Addr} {u : HO} (h : H a = some u) : Rd H a u := .inl h
theorem Rd.ok {P : Program} {w : World} {H : Hp} {h : Heap} {a : Addr} {u : HO} (r : Rd H a u) (x : HOk P w H h) : ObjOk P w H h a u := by
  rcases r with r | ⟨o, r⟩
  · exact x a u r
  · obtain ⟨_, q⟩ := x a _ r
    exact q
/-- what may be written -/
def Mut : Option HO → Prop
  | some (.lst _) => True
  | some (.dK _) => True
  | some (.dT _) => True
  | some (.set _ _) => True
  | some (.ins _ _ _) => True
  | some (.ext _) => True
  | _ => False
section
variable {P : Program} {w : World} {H : Hp} {h h' : Heap} {x e : Addr} {o' : HO}
/-- the object at e is changed: x itself, or the dict of the instance x -/
theorem HOk.write (ok : HOk P w H h) (mu : Mut (H x)) (he : e = x ∨ H e = some (.own x)) (k : ∀ b u, b ≠ e → h.get? b = some u → h'.get? b = some u) (heo : ∃ u, h'.get? e = some u)
    (new : ObjOk P w (upd H x o') h' x o') : HOk P w (upd H x o') h' := fun b u q => by
  have nown : ∀ c y, H c = some (.own y) → c ≠ x := fun c y r z => by subst z; rw [r] at mu; exact mu
  have ntup : ∀ c xs, H c = some (.tup xs) → c ≠ x := fun c xs r z => by subst z; rw [r] at mu; exact mu
  by_cases hb : b = x
  · subst hb; rw [upd_same] at q; cases q; exact new
  · rw [upd_ne hb] at q
    by_cases hbe : b = e
    · have q' : H b = some (.own x) := by
        rcases he with z | z
        · exact absurd (hbe.trans z) hb
        · rw [hbe]; exact z
      rw [q] at q'; cases q'
      obtain ⟨v, hv⟩ := heo
      exact ⟨v, by rw [hbe]; exact hv⟩
    · refine (ok b u q).stay (fun c v hc r => k c v ?_ r) (fun c r => by rw [upd_ne (nown c b r)]; exact r) fun c xs r => by rw [upd_ne (ntup c xs r)]; exact r
      rcases hc with rfl | hc
      · exact hbe
      · rintro rfl
        rcases he with z | z
        · exact nown c b hc z
        · rw [hc] at z; cases z; exact hb rfl
end

structure Un (fs ex : List Addr) (H H' : Hp) (h h' : Heap) : Prop where
  keep : ∀ b o, h.get? b = some o → H b = none → b ∉ fs → b ∉ ex → h'.get? b = some o
  slot : ∀ b o, h.get? b = some o → H b = none → b ∈ fs → b ∉ ex → ∃ sl, h'.get? b = some { o with slots := sl }
  free : ∀ b o, h.get? b = some o → H b = none → b ∉ ex → H' b = none
  there : ∀ b o, h.get? b = some o → b ∉ ex → ∃ o', h'.get? b = some o'
  tups : ∀ b xs, H b = some (.tup xs) → H' b = some (.tup xs)
  frzs : ∀ b o u, H b = some (.frz o u) → H' b = some (.frz o u)
  tbls : ∀ b ps, H b = some (.tbl ps) → ∃ more, H' b = some (.tbl (ps ++ more))
section
variable {fs fs' ex ex' : List Addr} {H H1 H2 : Hp} {h h1 h2 h' : Heap} {a x e : Addr} {o : HO}
theorem Un.any (u : Un fs ex H H1 h h1) {b : Addr} {ob : Obj} (q : h.get? b = some ob) (n : H b = none) (hx : b ∉ ex) : ∃ sl, h1.get? b = some { ob with slots := sl } := by
  by_cases hb : b ∈ fs
  · exact u.slot b ob q n hb hx
  · exact ⟨ob.slots, u.keep b ob q n hb hx⟩
theorem Un.trans (a : Un fs ex H H1 h h1) (b : Un fs ex H1 H2 h1 h2) : Un fs ex H H2 h h2 where
  keep := fun c ob q n hc hx => b.keep c ob (a.keep c ob q n hc hx) (a.free c ob q n hx) hc hx
  slot := fun c ob q n hc hx => by
    obtain ⟨sl, e1⟩ := a.slot c ob q n hc hx
    obtain ⟨sl', e2⟩ := b.slot c _ e1 (a.free c ob q n hx) hc hx
    exact ⟨sl', e2⟩
  free := fun c ob q n hx => by
    obtain ⟨o', e1⟩ := a.there c ob q hx
    exact b.free c o' e1 (a.free c ob q n hx) hx
  there := fun c ob q hx => by
    obtain ⟨o', e1⟩ := a.there c ob q hx
    exact b.there c o' e1 hx
  tups := fun c xs q => b.tups c xs (a.tups c xs q)
  frzs := fun c ob xs q => b.frzs c ob xs (a.frzs c ob xs q)
  tbls := fun c ps q => by
    obtain ⟨m1, e1⟩ := a.tbls c ps q
    obtain ⟨m2, e2⟩ := b.tbls c _ e1
    exact ⟨m1 ++ m2, by rw [e2, Array.append_assoc]⟩
theorem Un.kept (k : ∀ b u, h.get? b = some u → h'.get? b = some u) : Un fs ex H H h h' :=
  ⟨fun b ob q _ _ _ => k b ob q, fun b ob q _ _ _ => ⟨ob.slots, k b ob q⟩, fun _ _ _ n _ => n, fun b ob q _ => ⟨ob, k b ob q⟩, fun _ _ q => q, fun _ _ _ q => q, fun _ ps q => ⟨#[], by rw [q]; simp⟩⟩
theorem Un.refl : Un fs ex H H h h := Un.kept fun _ _ q => q
theorem Un.laid (k : ∀ b u, h.get? b = some u → h'.get? b = some u) (hp : h.objs.size ≤ a) (hn : H a = none) : Un fs ex H (upd H a o) h h' where
  keep := fun b u q _ _ _ => k b u q
  slot := fun b u q _ _ _ => ⟨u.slots, k b u q⟩
  free := fun b u q n _ => by rw [upd_ne (Nat.ne_of_lt (Nat.lt_of_lt_of_le (Heap.lt_size q) hp))]; exact n
  there := fun b u q _ => ⟨u, k b u q⟩
  tups := fun b xs q => by rw [upd_ne (ne_of_none q hn)]; exact q
  frzs := fun b u xs q => by rw [upd_ne (ne_of_none q hn)]; exact q
  tbls := fun b ps q => ⟨#[], by rw [upd_ne (ne_of_none q hn), q]; simp⟩
theorem Un.write (mu : Mut (H x)) (he : e = x ∨ H e = some (.own x)) (k : ∀ b u, b ≠ e → h.get? b = some u → h'.get? b = some u) (heo : ∃ u, h'.get? e = some u) : Un fs ex H (upd H x o) h h' := by
  have hx : ∀ b, H b = none → b ≠ x := fun b n z => by subst z; rw [n] at mu; exact mu
  have hb : ∀ b, H b = none → b ≠ e := fun b n z => by
    subst z
    rcases he with r | r
    · exact hx b n r
    · rw [n] at r; cases r
  have hm : ∀ b u, H b = some u → ¬ Mut (some u) → b ≠ x := fun b u q nm z => by subst z; rw [q] at mu; exact nm mu
  refine ⟨fun b u q n _ _ => k b u (hb b n) q, fun b u q n _ _ => ⟨u.slots, k b u (hb b n) q⟩, fun b u q n _ => by rw [upd_ne (hx b n)]; exact n, fun b u q _ => ?_,
    fun b xs q => by rw [upd_ne (hm b _ q fun z => z)]; exact q, fun b u xs q => by rw [upd_ne (hm b _ q fun z => z)]; exact q, fun b ps q => ⟨#[], by rw [upd_ne (hm b _ q fun z => z), q]; simp⟩⟩
  by_cases hbe : b = e
  · subst hbe; exact heo
  · exact ⟨u, k b u hbe q⟩
theorem Un.mono (u : Un fs ex H H1 h h1) (hs : ∀ b ∈ fs, b ∈ fs') (hx : ∀ b ∈ ex, b ∈ ex') : Un fs' ex' H H1 h h1 :=
  ⟨fun b ob q n hb he => u.keep b ob q n (fun z => hb (hs b z)) fun z => he (hx b z), fun _ _ q n _ he => u.any q n fun z => he (hx _ z), fun b ob q n he => u.free b ob q n fun z => he (hx b z), fun b ob q he => u.there b ob q fun z => he (hx b z), u.tups, u.frzs, u.tbls⟩
end

def trk (h : Heap) (H : Hp) : List Addr := (List.range h.objs.size).filter fun a => (H a).isSome
def hidT (h : Heap) (H : Hp) : Heap := PySem.W.hideAll h (trk h H)
theorem hidT_size (h : Heap) (H : Hp) : (hidT h H).objs.size = h.objs.size := PySem.W.hideAll_size _ _
theorem hidT_get {h : Heap} {H : Hp} {b : Addr} {o : Obj} (e : h.get? b = some o) (n : H b = none) : (hidT h H).get? b = some o :=
  PySem.W.hideAll_get _ e fun hm => by
    have q : (H b).isSome = true := (List.mem_filter.mp hm).2
    rw [n] at q; simp at q
theorem of_hidT {h : Heap} {H : Hp} {b : Addr} {o : Obj} (e : (hidT h H).get? b = some o) : h.get? b = some o ∧ H b = none := by
  have e' : h.get? b = some o := PySem.W.of_hideAll (trk h H) e
  refine ⟨e', ?_⟩
  cases q : H b with
  | none => rfl
  | some x =>
    have hm : b ∈ trk h H := List.mem_filter.mpr ⟨List.mem_range.mpr (Heap.lt_size e'), by simp [q]⟩
    have z : (hidT h H).get? b = none := PySem.W.hideAll_none (trk h H) hm
    rw [z] at e; cases e

def allNews (g h : Heap) (L : Addr) : List (Addr × Obj) := (List.range h.objs.size).filterMap fun a => if a = L ∨ (g.get? a).isSome = true then none else (h.get? a).map fun o => (a, o)
def rest (g h : Heap) (L d : Addr) : List (Addr × Obj) := (allNews g h L).filter fun p => decide (p.1 ≠ d)
end L2

namespace L2
open PySem PySem.Spec PyProof.Rows

/-- the module's facts, over the base: the heap at the law's entry without what is tracked there -/
structure Mod (K : PySem.W.Frag) (mg : Str → Option Value) (base : Heap) : Prop where
  kin : K.In base
  glob : base.Ns mainGlobals mg
  blt : ∃ mb, base.Ns builtinsNs mb ∧ ∀ x : Str, x ≠ "__name__" → mb x = bootBuiltins x
  nolimit : base.NoLimit

/-- the context: a def's body (or a comprehension's block) running. base: fixed through the whole law; s₀, H₀: the entry; outer: the frames whose slots others may change (a def's callers); stack: all frames that run;
   ex: iterators that were made ahead of the entry and are walked here (a comprehension's); fn: the names whose cells were made at the entry (a def: all; a comprehension's block: its own); calm: not within an except suite; pn: pins that every state bears; xe: what is wanted of an exception that leaves the code -/
structure Cx where
  prog : Program
  w : World
  K : PySem.W.Frag
  mg : Str → Option Value
  base : Heap
  A : Around
  N : List Str
  s₀ : Shared
  H₀ : Hp
  env : Env
  outer : List Env
  stack : List Env
  ex : List Addr
  fn : Str → Bool
  calm : Bool
  pn : List (Addr × Obj)
  xe : Value → Shared → Prop
/-- the callers' frames -/
def frs (l : List Env) : List Addr := l.filterMap (·.frame)
abbrev Cx.fs (X : Cx) : List Addr := frs X.outer

def Vis (sc : Scope) (x : Str) : Prop := sc.names.lookup x = some .local ∨ sc.names.lookup x = some .cell ∨ sc.names.lookup x = some .free
def Loc (sc : Scope) (x : Str) : Prop := sc.names.lookup x = some .local ∨ sc.names.lookup x = some .cell
def Look (env : Env) (h : Heap) (m : Str → Option Value) (x : Str) (u : Value) : Prop :=
  (env.kindOf x = some .local ∧ m x = some u) ∨ ((env.kindOf x = some .cell ∨ env.kindOf x = some .free) ∧ ∃ c, env.cells.lookup x = some c ∧ h.IsCell c (some u))

structure Cx.Ok (X : Cx) : Prop where
  mod : Mod X.K X.mg X.base
  kind : X.env.scope.kind = .function
  glob : X.env.globals = mainGlobals
  blt : X.env.builtins = builtinsNs
  above : X.s₀.heap.objs.size ≤ X.env.locals
  inj : ∀ x y c, X.env.cells.lookup x = some c → X.env.cells.lookup y = some c → x = y
  has : ∀ x, (X.env.kindOf x = some .cell ∨ X.env.kindOf x = some .free) → ∃ c, X.env.cells.lookup x = some c
  cab : ∀ x c, X.fn x = true → X.env.cells.lookup x = some c → X.s₀.heap.objs.size ≤ c
  hd : X.calm = true → X.A.handled = none
  frames : X.A.frames = some X.stack
  stk : X.stack = X.outer ∨ (X.stack = X.env :: X.outer ∧ X.env.frame = some X.env.locals)
  exf : ∀ b ∈ X.ex, b ≠ X.env.locals ∧ ∀ x c, X.env.cells.lookup x = some c → c ≠ b
  bs : ∀ b o, X.base.get? b = some o → X.s₀.heap.get? b = some o ∧ X.H₀ b = none
  bsz : X.base.objs.size ≤ X.s₀.heap.objs.size
  noex : ∀ b o, X.base.get? b = some o → b ∉ X.ex
  exfs : ∀ b ∈ X.ex, b ∉ X.fs
  funs : X.s₀.heap.FunFrames X.base X.outer
  frf : ∀ b ∈ X.fs, X.H₀ b = none

structure Inv (X : Cx) (pins : List (Addr × Obj)) (σ : List (Option V)) (H : Hp) (s : Shared) : Prop where
  ok : X.Ok
  os : s.os = X.s₀.os
  bare : AllBare s.gens
  base : Un X.fs X.ex X.H₀ H X.s₀.heap s.heap
  loc : ∃ m, s.heap.Ns X.env.locals m ∧ ∀ (i : Nat) (x : Str) (v : V), X.N[i]? = some x → σ[i]? = some (some v) → Vis X.env.scope x → ∃ u, RelV v u ∧ Look X.env s.heap m x u
  cell : ∀ x c, X.env.cells.lookup x = some c → ∃ v, s.heap.IsCell c v
  free : H X.env.locals = none
  freeC : ∀ x c, X.env.cells.lookup x = some c → H c = none
  pin : ∀ p ∈ X.pn ++ pins, s.heap.get? p.1 = some p.2 ∧ H p.1 = none ∧ p.1 ≠ X.env.locals ∧ p.1 ∉ X.fs ∧ ∀ v, p.2.data ≠ .cell v
  hok : HOk X.prog X.w H s.heap
  len : σ.length = X.N.length

section
variable {X : Cx} {pins : List (Addr × Obj)} {σ : List (Option V)} {H H' : Hp} {s : Shared} {h' : Heap}

theorem Cx.Ok.nofr (ok : X.Ok) {b : Addr} {o : Obj} (e : X.base.get? b = some o) : b ∉ X.fs := fun hb => by
  have := (ok.funs.mem hb).1
  rw [e] at this; cases this
theorem Inv.bs (I : Inv X pins σ H s) : ∀ b o, X.base.get? b = some o → s.heap.get? b = some o ∧ H b = none := fun b o e =>
  ⟨I.base.keep b o (I.ok.bs b o e).1 (I.ok.bs b o e).2 (I.ok.nofr e) (I.ok.noex b o e), I.base.free b o (I.ok.bs b o e).1 (I.ok.bs b o e).2 (I.ok.noex b o e)⟩
theorem Inv.bk (I : Inv X pins σ H s) : ∀ b o, X.base.get? b = some o → s.heap.get? b = some o := fun b o e => (I.bs b o e).1
theorem Inv.mod (I : Inv X pins σ H s) : Mod X.K X.mg X.base := I.ok.mod
theorem Inv.kIn (I : Inv X pins σ H s) : X.K.In s.heap := I.ok.mod.kin.keeps I.bk
theorem Inv.nolimit (I : Inv X pins σ H s) : s.heap.NoLimit := I.ok.mod.nolimit.keeps I.bk
/-- the frame over the base: for OpenK's rules (K.In X.base is I.mod.kin) -/
theorem Inv.fr (I : Inv X pins σ H s) : ∃ m, Fr X.base X.env.locals s.heap m :=
  let ⟨m, hn, _⟩ := I.loc
  ⟨m, hn, I.bk, Nat.le_trans I.ok.bsz I.ok.above⟩
theorem Inv.lt (I : Inv X pins σ H s) : X.env.locals < s.heap.objs.size := let ⟨_, hn, _⟩ := I.loc; hn.lt
theorem Inv.sz (I : Inv X pins σ H s) : X.s₀.heap.objs.size ≤ s.heap.objs.size := Nat.le_trans I.ok.above (Nat.le_of_lt I.lt)
theorem Inv.nofs (I : Inv X pins σ H s) {a : Addr} (h : s.heap.objs.size ≤ a) : a ∉ X.fs := fun hb => by
  obtain ⟨_, o, ho, _⟩ := I.ok.funs.mem hb
  exact absurd (Nat.lt_of_lt_of_le (Heap.lt_size ho) (Nat.le_trans I.sz h)) (Nat.lt_irrefl _)
theorem Inv.cne (I : Inv X pins σ H s) : ∀ x c, X.env.cells.lookup x = some c → c ≠ X.env.locals := fun x c e z => by
  obtain ⟨v, o, ho, hd⟩ := I.cell x c e
  obtain ⟨m, ⟨o', es, ep, ho', hd', _⟩, _⟩ := I.loc
  rw [z, ho'] at ho; cases ho; rw [hd'] at hd; cases hd
theorem Inv.funs (I : Inv X pins σ H s) : s.heap.FunFrames X.base X.outer := by
  have all : ∀ (l : List Env), (∀ b ∈ frs l, b ∈ X.fs) → X.s₀.heap.FunFrames X.base l → s.heap.FunFrames X.base l := by
    intro l
    induction l with
    | nil => intro _ _; trivial
    | cons env r ih =>
      intro hs hl
      obtain ⟨hk, ⟨L, o, hf, hn, ho, hd⟩, hr⟩ := hl
      have hL : L ∈ X.fs := hs L (by unfold frs; rw [List.filterMap_cons, hf]; exact List.mem_cons_self)
      obtain ⟨sl, e⟩ := I.base.slot L o ho (I.ok.frf L hL) hL fun z => I.ok.exfs L z hL
      exact ⟨hk, ⟨L, _, hf, hn, e, hd⟩, ih (fun b hb => hs b (by unfold frs; rw [List.filterMap_cons, hf]; exact List.mem_cons_of_mem _ hb)) hr⟩
  exact all X.outer (fun _ hb => hb) I.ok.funs

/-- the frames that run, for a call -/
theorem Inv.stack (I : Inv X pins σ H s) : s.heap.FunFrames X.base X.stack := by
  rcases I.ok.stk with e | ⟨e, hf⟩
  · rw [e]; exact I.funs
  · rw [e]
    obtain ⟨m, hn, _⟩ := I.loc
    refine .cons (by rw [I.ok.kind]; decide) hf hn ?_ I.funs
    exact Heap.get?_none_of_le (Nat.le_trans I.ok.bsz I.ok.above)
theorem Inv.stkSub (I : Inv X pins σ H s) : ∀ b ∈ frs X.stack, b ∈ X.env.locals :: X.fs := fun b hb => by
  rcases I.ok.stk with e | ⟨e, hf⟩
  · rw [e] at hb; exact List.mem_cons_of_mem _ hb
  · rw [e] at hb
    unfold frs at hb
    rw [List.filterMap_cons, hf] at hb
    exact hb
theorem Inv.stkFree (I : Inv X pins σ H s) : ∀ b ∈ frs X.stack, H b = none := fun b hb => by
  rcases List.mem_cons.mp (I.stkSub b hb) with e | hb
  · rw [e]; exact I.free
  · obtain ⟨_, o, ho, _⟩ := I.ok.funs.mem hb
    exact I.base.free b o ho (I.ok.frf b hb) fun z => I.ok.exfs b z hb

/-- THE STEP: the untracked objects but the frame and the records at ch are kept (the callers' frames up to slots), the frame's map is kept, the new abstract heap is held -/
theorem Inv.step {g' : Array GenState} {t' : Nat} {d' : Drawn} {ch : List Addr} (I : Inv X pins σ H s)
    (hch : ∀ b ∈ ch, (b ∈ X.ex ∨ X.s₀.heap.objs.size ≤ b) ∧ b ≠ X.env.locals ∧ (∀ x c, X.env.cells.lookup x = some c → c ≠ b) ∧ ∀ p ∈ X.pn ++ pins, p.1 ≠ b)
    (keep : ∀ b o, b ≠ X.env.locals → b ∉ X.fs → b ∉ ch → s.heap.get? b = some o → H b = none → h'.get? b = some o)
    (slot : ∀ b o, b ≠ X.env.locals → b ∈ X.fs → b ∉ ch → s.heap.get? b = some o → H b = none → ∃ sl, h'.get? b = some { o with slots := sl }) (free : ∀ b o, b ∉ ch → s.heap.get? b = some o → H b = none → H' b = none)
    (there : ∀ b o, b ∉ ch → s.heap.get? b = some o → ∃ o', h'.get? b = some o')
    (tups : ∀ b xs, H b = some (.tup xs) → H' b = some (.tup xs)) (frzs : ∀ b o u, H b = some (.frz o u) → H' b = some (.frz o u)) (tbls : ∀ b ps, H b = some (.tbl ps) → ∃ more, H' b = some (.tbl (ps ++ more)))
    (ns : ∀ m, s.heap.Ns X.env.locals m → h'.Ns X.env.locals m) (hok : HOk X.prog X.w H' h') (hg : AllBare g') :
    Inv X pins σ H' { s with heap := h', gens := g', drawn := d', toks := t' } := by
  have neL : ∀ b o, X.s₀.heap.get? b = some o → b ≠ X.env.locals := fun b o e => Nat.ne_of_lt (Nat.lt_of_lt_of_le (Heap.lt_size e) I.ok.above)
  have neC : ∀ b o, X.s₀.heap.get? b = some o → b ∉ X.ex → b ∉ ch := fun b o e hx hb => by
    rcases (hch b hb).1 with z | z
    · exact hx z
    · exact absurd (Nat.lt_of_lt_of_le (Heap.lt_size e) z) (Nat.lt_irrefl _)
  have cellK : ∀ x c, X.env.cells.lookup x = some c → ∀ v, s.heap.IsCell c v → h'.IsCell c v := fun x c e v ⟨o, ho, hd⟩ => by
    have nch : c ∉ ch := fun z => (hch c z).2.2.1 x c e rfl
    by_cases hc : c ∈ X.fs
    · obtain ⟨sl, q⟩ := slot c o (I.cne x c e) hc nch ho (I.freeC x c e)
      exact ⟨_, q, hd⟩
    · exact ⟨o, keep c o (I.cne x c e) hc nch ho (I.freeC x c e), hd⟩
  refine ⟨I.ok, I.os, hg, ⟨fun b o e n hb hx => ?_, fun b o e n hb hx => ?_, fun b o e n hx => ?_, fun b o e hx => ?_, fun b xs e => tups b xs (I.base.tups b xs e), fun b o xs e => frzs b o xs (I.base.frzs b o xs e), fun b ps e => ?_⟩, ?_, fun x c e => ?_, ?_, fun x c e => ?_, fun p hp => ?_, hok, I.len⟩
  · exact keep b o (neL b o e) hb (neC b o e hx) (I.base.keep b o e n hb hx) (I.base.free b o e n hx)
  · obtain ⟨sl, e1⟩ := I.base.slot b o e n hb hx
    obtain ⟨sl', e2⟩ := slot b _ (neL b o e) hb (neC b o e hx) e1 (I.base.free b o e n hx)
    exact ⟨sl', e2⟩
  · obtain ⟨o', e1⟩ := I.base.there b o e hx
    exact free b o' (neC b o e hx) e1 (I.base.free b o e n hx)
  · obtain ⟨o', e1⟩ := I.base.there b o e hx
    exact there b o' (neC b o e hx) e1
  · obtain ⟨m1, e1⟩ := I.base.tbls b ps e
    obtain ⟨m2, e2⟩ := tbls b _ e1
    exact ⟨m1 ++ m2, by rw [e2, Array.append_assoc]⟩
  · obtain ⟨m, hn, hl⟩ := I.loc
    refine ⟨m, ns m hn, fun i x v e1 e2 e3 => ?_⟩
    obtain ⟨u, r, l⟩ := hl i x v e1 e2 e3
    refine ⟨u, r, ?_⟩
    rcases l with l | ⟨k, c, e, z⟩
    · exact .inl l
    · exact .inr ⟨k, c, e, cellK x c e _ z⟩
  · obtain ⟨v, z⟩ := I.cell x c e
    exact ⟨v, cellK x c e v z⟩
  · obtain ⟨m, ⟨o, _, _, ho, _⟩, _⟩ := I.loc
    exact free _ o (fun z => (hch _ z).2.1 rfl) ho I.free
  · obtain ⟨v, o, ho, hd⟩ := I.cell x c e
    exact free c o (fun z => (hch c z).2.2.1 x c e rfl) ho (I.freeC x c e)
  · obtain ⟨e, n, ne, nf, d⟩ := I.pin p hp
    have nch : p.1 ∉ ch := fun z => (hch p.1 z).2.2.2 p hp rfl
    exact ⟨keep p.1 p.2 ne nf nch e n, free p.1 p.2 nch e n, ne, nf, d⟩
/-- .. where the frame's own object is kept too -/
theorem Inv.un {t' : Nat} (I : Inv X pins σ H s) (u : Un X.fs [] H H' s.heap h') (hok : HOk X.prog X.w H' h') : Inv X pins σ H' { s with heap := h', toks := t' } := by
  obtain ⟨m, ⟨o, es, ep, ho, r⟩, _⟩ := id I.loc
  obtain ⟨sl, hL⟩ := u.any ho I.free (by simp)
  exact I.step (g' := s.gens) (d' := s.drawn) (ch := []) (fun _ z => nomatch z) (fun b o _ hb _ e n => u.keep b o e n hb (by simp)) (fun b o _ hb _ e n => u.slot b o e n hb (by simp)) (fun b o _ e n => u.free b o e n (by simp)) (fun b o _ e => u.there b o e (by simp)) u.tups u.frzs u.tbls (fun m' hm => by
    obtain ⟨o', es', ep', ho', r'⟩ := hm
    rw [ho] at ho'; cases ho'
    exact ⟨_, es', ep', hL, r'⟩) hok I.bare
/-- behind a call (or a comprehension's block): the slots of this frame may have changed too, the records at ch may have turned -/
theorem Inv.call {g' : Array GenState} {t' : Nat} {d' : Drawn} {ch : List Addr} (I : Inv X pins σ H s) (u : Un (frs X.stack) ch H H' s.heap h') (hok : HOk X.prog X.w H' h') (hg : AllBare g')
    (hch : ∀ b ∈ ch, (b ∈ X.ex ∨ X.s₀.heap.objs.size ≤ b) ∧ b ≠ X.env.locals ∧ (∀ x c, X.env.cells.lookup x = some c → c ≠ b) ∧ ∀ p ∈ X.pn ++ pins, p.1 ≠ b) :
    Inv X pins σ H' { s with heap := h', gens := g', drawn := d', toks := t' } := by
  obtain ⟨m, ⟨o, es, ep, ho, r⟩, _⟩ := id I.loc
  obtain ⟨sl, hL⟩ := u.any ho I.free fun z => (hch _ z).2.1 rfl
  exact I.step (ch := ch) hch (fun b o hL hb hc e n => u.keep b o e n (fun z => (List.mem_cons.mp (I.stkSub b z)).elim hL hb) hc) (fun b o _ _ hc e n => u.any e n hc) (fun b o hc e n => u.free b o e n hc) (fun b o hc e => u.there b o e hc) u.tups u.frzs u.tbls (fun m' hm => by
    obtain ⟨o', es', ep', ho', r'⟩ := hm
    rw [ho] at ho'; cases ho'
    exact ⟨_, es', ep', hL, r'⟩) hok hg
/-- an untracked record of ours (an iterator) has turned -/
theorem Inv.turned {t' : Nat} {it : Addr} (I : Inv X pins σ H s) (k : ∀ b o, b ≠ it → s.heap.get? b = some o → h'.get? b = some o) (hn : H it = none) (hL : it ≠ X.env.locals)
    (h1 : it ∈ X.ex ∨ X.s₀.heap.objs.size ≤ it) (h2 : ∀ x c, X.env.cells.lookup x = some c → c ≠ it) (h3 : ∀ p ∈ X.pn ++ pins, p.1 ≠ it) : Inv X pins σ H { s with heap := h', toks := t' } := by
  have nit : ∀ b u, H b = some u → b ≠ it := fun b u e z => by rw [z, hn] at e; cases e
  refine I.step (g' := s.gens) (d' := s.drawn) (ch := [it]) (fun b hb => ?_) (fun b o _ _ hc e _ => k b o (fun z => hc (by simp [z])) e) (fun b o _ _ hc e _ => ⟨o.slots, k b o (fun z => hc (by simp [z])) e⟩) (fun _ _ _ _ n => n)
    (fun b o hc e => ⟨o, k b o (fun z => hc (by simp [z])) e⟩) (fun _ _ e => e) (fun _ _ _ e => e) (fun b ps e => ⟨#[], by rw [e]; simp⟩) (fun m hm => ?_) (fun b u e => ?_) I.bare
  · have e : b = it := by simpa using hb
    subst e
    exact ⟨h1, hL, h2, h3⟩
  · obtain ⟨o, es, ep, ho, r⟩ := hm
    exact ⟨o, es, ep, k _ o (Ne.symm hL) ho, r⟩
  · refine (I.hok b u e).stay (fun c v hc q => k c v ?_ q) (fun _ q => q) fun _ _ q => q
    rcases hc with z | z
    · rw [z]; exact nit b u e
    · exact nit c _ z
theorem Inv.tok (I : Inv X pins σ H s) (t : Nat) : Inv X pins σ H { s with toks := t } := I.un (h' := s.heap) (t' := t) Un.refl I.hok
/-- all objects kept -/
theorem Inv.kept {t' : Nat} (I : Inv X pins σ H s) (k : ∀ b u, s.heap.get? b = some u → h'.get? b = some u) : Inv X pins σ H { s with heap := h', toks := t' } := I.un (Un.kept k) (I.hok.kept k)
/-- a new object laid and tracked -/
theorem Inv.laid {a : Addr} {o : HO} {t' : Nat} (I : Inv X pins σ H s) (k : ∀ b u, s.heap.get? b = some u → h'.get? b = some u) (hp : s.heap.objs.size ≤ a) (new : ObjOk X.prog X.w (upd H a o) h' a o) :
    Inv X pins σ (upd H a o) { s with heap := h', toks := t' } := I.un (Un.laid k hp (I.hok.fresh hp)) (I.hok.laid k hp new)
/-- an object written -/
theorem Inv.write {x e : Addr} {o : HO} {t' : Nat} (I : Inv X pins σ H s) (mu : Mut (H x)) (he : e = x ∨ H e = some (.own x)) (k : ∀ b u, b ≠ e → s.heap.get? b = some u → h'.get? b = some u) (heo : ∃ u, h'.get? e = some u)
    (new : ObjOk X.prog X.w (upd H x o) h' x o) : Inv X pins σ (upd H x o) { s with heap := h', toks := t' } := I.un (Un.write mu he k heo) (I.hok.write mu he k heo new)
theorem Inv.pins_of {pins' : List (Addr × Obj)} (I : Inv X pins σ H s) (h : ∀ p ∈ pins', s.heap.get? p.1 = some p.2 ∧ H p.1 = none ∧ p.1 ≠ X.env.locals ∧ p.1 ∉ X.fs ∧ ∀ v, p.2.data ≠ .cell v) : Inv X pins' σ H s :=
  ⟨I.ok, I.os, I.bare, I.base, I.loc, I.cell, I.free, I.freeC, fun p hp => (List.mem_append.mp hp).elim (fun z => I.pin p (List.mem_append_left _ z)) (h p), I.hok, I.len⟩

theorem nodup_ix {N : List Str} (hN : N.Nodup) {i j : Nat} {x : Str} (a : N[i]? = some x) (b : N[j]? = some x) : i = j := by
  obtain ⟨h1, e1⟩ := List.getElem?_eq_some_iff.mp a
  obtain ⟨h2, e2⟩ := List.getElem?_eq_some_iff.mp b
  exact (List.getElem_inj hN).mp (e1.trans e2.symm)

/-- a name is stored; what changed -/
theorem store_ok2 {M : Model} {A : Around} {E : Value → Shared → Prop} {i : Nat} {x : Str} {v : V} {u : Value} {Q : Unit → Shared → Prop} (I : Inv X pins σ H s) (hN : X.N.Nodup) (hi : X.N[i]? = some x) (hx : Loc X.env.scope x) (r : RelV v u)
    (h : ∀ s', Inv X pins (σ.set i (some v)) H s' → (∃ a, Heap.SameBut a s.heap s'.heap ∧ (a = X.env.locals ∨ X.env.cells.lookup x = some a)) → Q () s') (hf : X.fn x = true ∨ X.env.scope.names.lookup x = some .local := by first | exact .inl rfl | exact .inr rfl | assumption) : wpAny M A (storeName X.env x u) Q E s := by
  obtain ⟨m, hn, hl⟩ := id I.loc
  have hcls : (X.env.scope.kind == .class || (X.env.scope.kind == .module && X.env.locals != X.env.globals)) = false := by rw [I.ok.kind]; rfl
  have hiσ : i < σ.length := by rw [I.len]; exact (List.getElem?_eq_some_iff.mp hi).1
  have cne := I.cne
  have tracked : ∀ {a : Addr} {h' : Heap}, (∃ o, s.heap.get? a = some o ∧ H a = none) → Heap.SameBut a s.heap h' → HOk X.prog X.w H h' := fun {a h'} ha hs b ob e => by
    obtain ⟨_, _, hfree⟩ := ha
    refine (I.hok b ob e).stay (fun c w' hc q => (hs.2 c ?_).trans q) (fun _ q => q) fun _ _ q => q
    rintro rfl
    rcases hc with rfl | hc
    · rw [hfree] at e; cases e
    · rw [hfree] at hc; cases hc
  rcases hx with hk | hk
  · refine wpAny_storeName_local hk hn (fun h' hn' hs => ?_) hcls
    obtain ⟨oL, _, _, hoL, _⟩ := id hn
    refine h _ ⟨I.ok, I.os, I.bare, ⟨fun b o e n hb hx => ?_, fun b o e n hb hx => ?_, I.base.free, fun b o e hx => ?_, I.base.tups, I.base.frzs, I.base.tbls⟩, ⟨_, hn', fun j y v' e1 e2 e3 => ?_⟩, fun y c e => ?_, I.free, I.freeC, fun p hp => ?_, tracked ⟨oL, hoL, I.free⟩ hs, by simpa using I.len⟩ ⟨_, hs, .inl rfl⟩
    · exact (hs.2 b (Nat.ne_of_lt (Nat.lt_of_lt_of_le (Heap.lt_size e) I.ok.above))).trans (I.base.keep b o e n hb hx)
    · obtain ⟨sl, e1⟩ := I.base.slot b o e n hb hx
      exact ⟨sl, (hs.2 b (Nat.ne_of_lt (Nat.lt_of_lt_of_le (Heap.lt_size e) I.ok.above))).trans e1⟩
    · obtain ⟨o', e1⟩ := I.base.there b o e hx
      exact ⟨o', (hs.2 b (Nat.ne_of_lt (Nat.lt_of_lt_of_le (Heap.lt_size e) I.ok.above))).trans e1⟩
    · by_cases hj : j = i
      · subst hj
        rw [hi] at e1; cases e1
        rw [List.getElem?_set_self hiσ] at e2
        cases e2
        exact ⟨u, r, .inl ⟨hk, by simp⟩⟩
      · rw [List.getElem?_set_ne (Ne.symm hj)] at e2
        obtain ⟨u', r', q⟩ := hl j y v' e1 e2 e3
        refine ⟨u', r', ?_⟩
        rcases q with ⟨k, e⟩ | ⟨k, c, e, z⟩
        · refine .inl ⟨k, ?_⟩
          have : y ≠ x := fun e => hj (nodup_ix hN e1 (e ▸ hi))
          simp [this, e]
        · exact .inr ⟨k, c, e, z.sameBut hs (cne y c e)⟩
    · obtain ⟨w', z⟩ := I.cell y c e
      exact ⟨w', z.sameBut hs (cne y c e)⟩
    · obtain ⟨e, n, ne, nf, d⟩ := I.pin p hp
      exact ⟨(hs.2 p.1 ne).trans e, n, ne, nf, d⟩
  · have hfn : X.fn x = true := by
      rcases hf with z | z
      · exact z
      · rw [z] at hk; cases hk
    obtain ⟨c, hc⟩ := I.ok.has x (.inl hk)
    obtain ⟨w', z⟩ := I.cell x c hc
    refine wpAny_storeName_cell I.ok.kind hk hc z (fun h' hc' hs => ?_)
    obtain ⟨oc, hoc, hocd⟩ := id z
    refine h { s with heap := h' } ⟨I.ok, I.os, I.bare, ⟨fun b o e n hb hx => ?_, fun b o e n hb hx => ?_, I.base.free, fun b o e hx => ?_, I.base.tups, I.base.frzs, I.base.tbls⟩, ⟨m, hn.sameBut hs (Ne.symm (cne x c hc)), fun j y v' e1 e2 e3 => ?_⟩, fun y c' e => ?_, I.free, I.freeC, fun p hp => ?_, tracked ⟨oc, hoc, I.freeC x c hc⟩ hs, by simpa using I.len⟩ ⟨c, hs, .inr hc⟩
    · exact (hs.2 b (Nat.ne_of_lt (Nat.lt_of_lt_of_le (Heap.lt_size e) (I.ok.cab x c hfn hc)))).trans (I.base.keep b o e n hb hx)
    · obtain ⟨sl, e1⟩ := I.base.slot b o e n hb hx
      exact ⟨sl, (hs.2 b (Nat.ne_of_lt (Nat.lt_of_lt_of_le (Heap.lt_size e) (I.ok.cab x c hfn hc)))).trans e1⟩
    · obtain ⟨o', e1⟩ := I.base.there b o e hx
      exact ⟨o', (hs.2 b (Nat.ne_of_lt (Nat.lt_of_lt_of_le (Heap.lt_size e) (I.ok.cab x c hfn hc)))).trans e1⟩
    · by_cases hj : j = i
      · subst hj
        rw [hi] at e1; cases e1
        rw [List.getElem?_set_self hiσ] at e2
        cases e2
        exact ⟨u, r, .inr ⟨.inl hk, c, hc, hc'⟩⟩
      · rw [List.getElem?_set_ne (Ne.symm hj)] at e2
        obtain ⟨u', r', q⟩ := hl j y v' e1 e2 e3
        refine ⟨u', r', ?_⟩
        rcases q with q | ⟨k, c', e, z'⟩
        · exact .inl q
        · refine .inr ⟨k, c', e, z'.sameBut hs ?_⟩
          rintro rfl
          exact hj (nodup_ix hN e1 (I.ok.inj _ _ _ e hc ▸ hi))
    · by_cases hcc : c' = c
      · subst hcc; exact ⟨_, hc'⟩
      · obtain ⟨w2, z2⟩ := I.cell y c' e
        exact ⟨w2, z2.sameBut hs hcc⟩
    · obtain ⟨e, n, ne, nf, d⟩ := I.pin p hp
      refine ⟨(hs.2 p.1 ?_).trans e, n, ne, nf, d⟩
      intro q
      rw [q, hoc] at e
      have q' : oc = p.2 := Option.some.inj e
      exact d w' (by rw [← q']; exact hocd)
theorem store_ok {M : Model} {A : Around} {E : Value → Shared → Prop} {i : Nat} {x : Str} {v : V} {u : Value} {Q : Unit → Shared → Prop} (I : Inv X pins σ H s) (hN : X.N.Nodup) (hi : X.N[i]? = some x) (hx : Loc X.env.scope x) (r : RelV v u)
    (h : ∀ s', Inv X pins (σ.set i (some v)) H s' → Q () s') (hf : X.fn x = true ∨ X.env.scope.names.lookup x = some .local := by first | exact .inl rfl | exact .inr rfl | assumption) : wpAny M A (storeName X.env x u) Q E s :=
  store_ok2 I hN hi hx r (fun s' I' _ => h s' I') hf
/-- behind a call or a block, the state as it is -/
theorem Inv.call' {s' : Shared} {ch : List Addr} (I : Inv X pins σ H s) (ho : s'.os = s.os) (u : Un (frs X.stack) ch H H' s.heap s'.heap) (hok : HOk X.prog X.w H' s'.heap) (hg : AllBare s'.gens)
    (hch : ∀ b ∈ ch, (b ∈ X.ex ∨ X.s₀.heap.objs.size ≤ b) ∧ b ≠ X.env.locals ∧ (∀ x c, X.env.cells.lookup x = some c → c ≠ b) ∧ ∀ p ∈ X.pn ++ pins, p.1 ≠ b) : Inv X pins σ H' s' := by
  obtain ⟨h', g', d', t', o'⟩ := s'
  have e : o' = s.os := ho
  subst e
  exact I.call (g' := g') (t' := t') (d' := d') u hok hg hch
end

/-- an exception: its class, its own dict's address (where it has one), the abstract heap behind it -/
abbrev XK := Value → Option Addr → Hp → Prop
abbrev St := List (Option V)
abbrev VK := V → Hp → Prop
/-- an expression's reading; a test's; an argument list's -/
abbrev TE := St → Hp → VK → Prop
abbrev TT := St → Hp → (Bool → Hp → Prop) → Prop
abbrev TA := St → Hp → (List V → Hp → Prop) → Prop
/-- what is wanted behind a statement -/
structure Ends where
  nx : St → Hp → Prop
  rt : VK
  bk : St → Hp → Prop := fun _ _ => False
  ct : St → Hp → Prop := fun _ _ => False
abbrev TS := Ends → St → Hp → Prop

def EP (X : Cx) (pins : List (Addr × Obj)) (σ : St) (Q : VK) (u : Value) (s' : Shared) : Prop := ∃ v H', Inv X pins σ H' s' ∧ RelV v u ∧ Q v H'
def TP (X : Cx) (pins : List (Addr × Obj)) (σ : St) (Q : Bool → Hp → Prop) (b : Bool) (s' : Shared) : Prop := ∃ H', Inv X pins σ H' s' ∧ Q b H'
def AP (X : Cx) (pins : List (Addr × Obj)) (σ : St) (Q : List V → Hp → Prop) (us : List Value) (s' : Shared) : Prop := ∃ vs H', Inv X pins σ H' s' ∧ Vals vs us ∧ Q vs H'
def SP (X : Cx) (pins : List (Addr × Obj)) (D : Ends) (f : Flow) (s' : Shared) : Prop :=
  match f with
  | .next => ∃ σ' H', Inv X pins σ' H' s' ∧ D.nx σ' H'
  | .brk => ∃ σ' H', Inv X pins σ' H' s' ∧ D.bk σ' H'
  | .cont => ∃ σ' H', Inv X pins σ' H' s' ∧ D.ct σ' H'
  | .ret u => ∃ v σ' H', Inv X pins σ' H' s' ∧ RelV v u ∧ D.rt v H'

def PE (X : Cx) (e : Expr) (t : TE) : Prop :=
  ∀ (pins : List (Addr × Obj)) (s : Shared) (σ : St) (H : Hp) (Q : VK), Inv X pins σ H s → t σ H Q → wpAny (model X.prog X.w) X.A (eval e X.env) (EP X pins σ Q) X.xe s
def PT (X : Cx) (e : Expr) (t : TT) : Prop :=
  ∀ (pins : List (Addr × Obj)) (s : Shared) (σ : St) (H : Hp) (Q : Bool → Hp → Prop), Inv X pins σ H s → t σ H Q → wpAny (model X.prog X.w) X.A (isTrue e X.env (eval e X.env)) (TP X pins σ Q) X.xe s
/-- a test whatever its 'whole' is (and, or) -/
def PW (X : Cx) (e : Expr) (t : TT) : Prop :=
  ∀ (whole : Sem Value) (pins : List (Addr × Obj)) (s : Shared) (σ : St) (H : Hp) (Q : Bool → Hp → Prop), Inv X pins σ H s → t σ H Q → wpAny (model X.prog X.w) X.A (isTrue e X.env whole) (TP X pins σ Q) X.xe s
theorem PW.pt {X : Cx} {e : Expr} {t : TT} (h : PW X e t) : PT X e t := h _
/-- an argument list (no star), from the left -/
def PA (X : Cx) (es : List Expr) (t : TA) : Prop :=
  ∀ (pos : Pos) (pins : List (Addr × Obj)) (s : Shared) (σ : St) (H : Hp) (Q : List V → Hp → Prop), Inv X pins σ H s → t σ H Q → wpAny (model X.prog X.w) X.A (spliced (backTo pos (starEach es X.env))) (AP X pins σ Q) X.xe s
def PS (X : Cx) (st : Stmt) (t : TS) : Prop :=
  ∀ (pins : List (Addr × Obj)) (s : Shared) (σ : St) (H : Hp) (D : Ends), Inv X pins σ H s → t D σ H → wpAny (model X.prog X.w) X.A (exec st X.env) (SP X pins D) X.xe s
def PSs (X : Cx) (st : List Stmt) (t : TS) : Prop :=
  ∀ (pins : List (Addr × Obj)) (s : Shared) (σ : St) (H : Hp) (D : Ends), Inv X pins σ H s → t D σ H → wpAny (model X.prog X.w) X.A (execs st X.env) (SP X pins D) X.xe s
/-- weaken the end -/
theorem thn {α : Type} {t : Sem α} {Q Q' : α → Shared → Prop} {M : Model} {A : Around} {E : Value → Shared → Prop} {s : Shared} (h : wpAny M A t Q E s) (hQ : ∀ a s, Q a s → Q' a s) : wpAny M A t Q' E s := wpAny_mono h hQ fun _ _ x => x
end L2

namespace L2
open PySem PySem.Spec PyProof.Rows
section
variable {X : Cx}

def tVar (i : Nat) : TE := fun σ H Q => ∃ v, σ[i]? = some (some v) ∧ Q v H
def tC (v : V) : TE := fun _ H Q => Q v H
theorem pe_var {i : Nat} {x : Str} {pos : Pos} (hN : X.N[i]? = some x) (hv : Vis X.env.scope x) (hd : (x == ("__debug__" : Str)) = false := by decide) (hcd : (x == ("__classdict__" : Str)) = false := by decide) : PE X (.Name x pos) (tVar i) := by
  intro pins s σ H Q I h
  obtain ⟨v, e, h⟩ := h
  obtain ⟨m, hn, hl⟩ := I.loc
  obtain ⟨u, r, l⟩ := hl i x v hN e hv
  have fin : EP X pins σ Q u s := ⟨v, H, I, r, h⟩
  rcases l with ⟨hk, hm⟩ | ⟨hk, c, hc, hcell⟩
  · exact wpAny_Name (wpAny_loadName_local I.ok.kind hk hn hm fin) hd
  · rcases hk with hk | hk
    · exact wpAny_Name (wpAny_loadName_cell I.ok.kind hk hc hcell fin) hd
    · exact wpAny_Name (wpAny_loadName_free I.ok.kind hk hc hcell fin hcd) hd
theorem pe_int {i j pos} : PE X (.Constant (.int i) j pos) (tC (.int i)) := fun _ _ _ H _ I h => wpAny_Constant_int ⟨.int i, H, I.tok _, ⟨_, rfl⟩, h⟩
theorem pe_bl {b j pos} : PE X (.Constant (.bool b) j pos) (tC (.bl b)) := fun _ _ _ H _ I h => Constant_bool ⟨.bl b, H, I, rfl, h⟩
theorem pe_non {j pos} : PE X (.Constant .none j pos) (tC .non) := fun _ _ _ H _ I h => Constant_none ⟨.non, H, I, rfl, h⟩
theorem pe_str {x j pos} : PE X (.Constant (.str x) j pos) (tC (.str x)) := fun _ _ _ H _ I h => Calls.Constant_str ⟨.str x, H, I.tok _, ⟨_, rfl⟩, h⟩

/-- a global name of the def -/
def Gl (X : Cx) (x : Str) : Prop := X.env.kindOf x = some .globalImplicit
theorem ld_glob {E : Value → Shared → Prop} {pins : List (Addr × Obj)} {s : Shared} {σ : St} {H : Hp} {x : Str} {u : Value} {pos : Pos} {Q : Value → Shared → Prop} (I : Inv X pins σ H s) (hg : Gl X x) (hm : X.mg x = some u) (h : Q u s)
    (hd : (x == ("__debug__" : Str)) = false := by decide) : wpAny (model X.prog X.w) X.A (eval (.Name x pos) X.env) Q E s :=
  Calls.Name_function_global I.ok.kind hg (Calls.loadGlobal_global (by rw [I.ok.glob]; exact I.mod.glob.keeps I.bk) hm h) hd
theorem ld_blt {E : Value → Shared → Prop} {pins : List (Addr × Obj)} {s : Shared} {σ : St} {H : Hp} {x : Str} {u : Value} {pos : Pos} {Q : Value → Shared → Prop} (I : Inv X pins σ H s) (hg : Gl X x) (hm : X.mg x = none) (hv : bootBuiltins x = some u) (h : Q u s)
    (hn : x ≠ "__name__" := by decide) (hd : (x == ("__debug__" : Str)) = false := by decide) : wpAny (model X.prog X.w) X.A (eval (.Name x pos) X.env) Q E s := by
  obtain ⟨mb, h1, h2⟩ := I.mod.blt
  exact Calls.Name_function_global I.ok.kind hg (Calls.loadGlobal_builtin (by rw [I.ok.glob]; exact I.mod.glob.keeps I.bk) hm (by rw [I.ok.blt]; exact h1.keeps I.bk) ((h2 x hn).trans hv) h) hd
/-- a module's constant, a class, a function, as a value -/
theorem pe_glob {x : Str} {v : V} {u : Value} {pos : Pos} (hg : Gl X x) (hm : X.mg x = some u) (r : RelV v u) (hd : (x == ("__debug__" : Str)) = false := by decide) : PE X (.Name x pos) (tC v) :=
  fun _ _ _ H _ I h => ld_glob I hg hm ⟨v, H, I, r, h⟩ hd
theorem pe_bltn {x : Str} {v : V} {u : Value} {pos : Pos} (hg : Gl X x) (hm : X.mg x = none) (hv : bootBuiltins x = some u) (r : RelV v u) (hn : x ≠ "__name__" := by decide) (hd : (x == ("__debug__" : Str)) = false := by decide) : PE X (.Name x pos) (tC v) :=
  fun _ _ _ H _ I h => ld_blt I hg hm hv ⟨v, H, I, r, h⟩ hn hd

/-- two ints -/
def t2I (ta tb : TE) (k : Int → Int → Hp → Prop) : St → Hp → Prop := fun σ H => ta σ H fun x H1 => tb σ H1 fun y H2 => ∃ i j, x = .int i ∧ y = .int j ∧ k i j H2
def tAdd (ta tb : TE) : TE := fun σ H Q => t2I ta tb (fun i j H2 => Q (.int (i + j)) H2) σ H
def tSub (ta tb : TE) : TE := fun σ H Q => t2I ta tb (fun i j H2 => Q (.int (i - j)) H2) σ H
/-- the left factor below 2^64 -/
def tMul (ta tb : TE) : TE := fun σ H Q => t2I ta tb (fun i j H2 => (-(2 ^ 64) < i ∧ i < 2 ^ 64) ∧ Q (.int (i * j)) H2) σ H
variable {a b : Expr} {ta tb : TE} {pos : Pos}
def PC (X : Cx) (op : CmpOp) (a b : Expr) (t : TE) : Prop :=
  ∀ (pins : List (Addr × Obj)) (s : Shared) (σ : St) (H : Hp) (Q : VK), Inv X pins σ H s → t σ H Q →
    wpAny (model X.prog X.w) X.A (eval a X.env) (fun v s₁ => wpAny (model X.prog X.w) X.A (eval b X.env) (fun u s₂ => wpAny (model X.prog X.w) X.A (compareOp op v u) (EP X pins σ Q) X.xe s₂) X.xe s₁) X.xe s
theorem nobehind (b : Expr) {op : CmpOp} (h : op ≠ .In) (h2 : op ≠ .NotIn) : behindInMarks op b = false := by
  have e1 : (op == CmpOp.In) = false := by cases op <;> first | rfl | exact absurd rfl h
  have e2 : (op == CmpOp.NotIn) = false := by cases op <;> first | rfl | exact absurd rfl h2
  cases b <;> simp [behindInMarks, e1, e2]
def tCmp (p : Int → Int → Bool) (ta tb : TE) : TE := fun σ H Q => t2I ta tb (fun i j H2 => Q (.bl (p i j)) H2) σ H
abbrev tLt : TE → TE → TE := tCmp fun i j => decide (i < j)
abbrev tLe : TE → TE → TE := tCmp fun i j => decide (i ≤ j)
abbrev tGt : TE → TE → TE := tCmp fun i j => decide (j < i)
abbrev tGe : TE → TE → TE := tCmp fun i j => decide (j ≤ i)
abbrev tEqI : TE → TE → TE := tCmp fun i j => decide (i = j)
abbrev tNeI : TE → TE → TE := tCmp fun i j => !decide (i = j)
/-- is None -/
def tIsN (ta : TE) : TE := fun σ H Q => ta σ H fun x H1 => Q (.bl (decide (x = .non))) H1
def tNotN (ta : TE) : TE := fun σ H Q => ta σ H fun x H1 => Q (.bl (!decide (x = .non))) H1
/-- a comparison as a value, as a test -/
def tB (t : TE) : TT := fun σ H Q => t σ H fun x H1 => ∃ c, x = .bl c ∧ Q c H1
theorem pt_cmp {op : CmpOp} {t : TE} (h : PC X op a b t) (h1 : behindInMarks op b = false := by first | exact nobehind _ (by decide) (by decide) | rfl) : PT X (.Compare a [op] [b] pos) (tB t) := by
  intro pins s σ H Q I hw
  refine wpAny_isTrue_Compare1 (thn (h pins s σ H _ I hw) fun v s1 h1 => thn h1 fun u s2 h2 => thn h2 fun c s3 ⟨x, H1, I1, r1, q1⟩ => ?_) h1
  obtain ⟨d, rfl, q⟩ := q1
  cases r1
  exact wpAny_truthy_bool ⟨H1, I1, q⟩
/-- an expression whose value is a bool, as a test -/
theorem pt_val {e : Expr} {t : TE} (h : PE X e t) (he : ∀ whole, isTrue e X.env whole = (do let v ← whole; standAt e.pos; holding [v] (truthy v)) := by intro _; rfl) : PT X e (tB t) := by
  intro pins s σ H Q I hw
  refine isTrue_plain (thn (h pins s σ H _ I hw) fun v s1 ⟨x, H1, I1, r1, q1⟩ => ?_) (he _)
  obtain ⟨d, rfl, q⟩ := q1
  cases r1
  exact wpAny_truthy_bool ⟨H1, I1, q⟩

variable {tA tB' : TT} {rest : List Expr}
def tAnd (t u : TT) : TT := fun σ H Q => t σ H fun c H1 => if c = true then u σ H1 Q else Q false H1
def tOr (t u : TT) : TT := fun σ H Q => t σ H fun c H1 => if c = true then Q true H1 else u σ H1 Q
def tNot (t : TT) : TT := fun σ H Q => t σ H fun c H1 => Q (!c) H1
theorem pw_and1 (ha : PT X a tA) : PW X (.BoolOp .And [a] pos) tA := by
  intro wh pins s σ H Q I h
  refine isTrue_and (thn (ha pins s σ H Q I h) fun c s1 e => ?_)
  cases c with
  | true => exact isTrue_and_nil e
  | false => exact e
theorem pw_or1 (ha : PT X a tA) : PW X (.BoolOp .Or [a] pos) tA := by
  intro wh pins s σ H Q I h
  refine isTrue_or (thn (ha pins s σ H Q I h) fun c s1 e => ?_)
  cases c with
  | false => exact isTrue_or_nil e
  | true => exact e
theorem pw_and (ha : PT X a tA) (hb : PW X (.BoolOp .And (b :: rest) pos) tB') : PW X (.BoolOp .And (a :: b :: rest) pos) (tAnd tA tB') := by
  intro wh pins s σ H Q I h
  refine isTrue_and (thn (ha pins s σ H _ I h) fun c s1 ⟨H1, I1, q1⟩ => ?_)
  cases c with
  | true => exact hb wh pins s1 σ H1 Q I1 q1
  | false => exact ⟨H1, I1, q1⟩
theorem pw_or (ha : PT X a tA) (hb : PW X (.BoolOp .Or (b :: rest) pos) tB') : PW X (.BoolOp .Or (a :: b :: rest) pos) (tOr tA tB') := by
  intro wh pins s σ H Q I h
  refine isTrue_or (thn (ha pins s σ H _ I h) fun c s1 ⟨H1, I1, q1⟩ => ?_)
  cases c with
  | true => exact ⟨H1, I1, q1⟩
  | false => exact hb wh pins s1 σ H1 Q I1 q1
theorem pt_not (ha : PT X a tA) : PT X (.UnaryOp .Not a pos) (tNot tA) := by
  intro pins s σ H Q I h
  exact isTrue_not (ha pins s σ H (fun c H1 => Q (!c) H1) I h)
/-- .. as values (bools) -/
def tAndV (ta tb : TE) : TE := fun σ H Q => ta σ H fun x H1 => ∃ c, x = .bl c ∧ if c = true then tb σ H1 Q else Q (.bl false) H1
def tOrV (ta tb : TE) : TE := fun σ H Q => ta σ H fun x H1 => ∃ c, x = .bl c ∧ if c = true then Q (.bl true) H1 else tb σ H1 Q
def tNotV (ta : TE) : TE := fun σ H Q => ta σ H fun x H1 => ∃ c, x = .bl c ∧ Q (.bl (!c)) H1
theorem pe_one {op} {t : TE} (h : PE X a t) : PE X (.BoolOp op [a] pos) t := fun pins s σ H Q I hw => BoolOp_one (h pins s σ H Q I hw)
theorem pe_and (ha : PE X a ta) (hb : PE X (.BoolOp .And (b :: rest) pos) tb) : PE X (.BoolOp .And (a :: b :: rest) pos) (tAndV ta tb) := by
  intro pins s σ H Q I h
  refine BoolOp_and (thn (ha pins s σ H _ I h) fun v s1 ⟨x, H1, I1, r1, q1⟩ => ?_)
  obtain ⟨c, rfl, q1⟩ := q1
  cases r1
  refine wpAny_truthy_bool ?_
  cases c with
  | true => exact hb pins s1 σ H1 Q I1 q1
  | false => exact ⟨.bl false, H1, I1, rfl, q1⟩
theorem pe_or (ha : PE X a ta) (hb : PE X (.BoolOp .Or (b :: rest) pos) tb) : PE X (.BoolOp .Or (a :: b :: rest) pos) (tOrV ta tb) := by
  intro pins s σ H Q I h
  refine BoolOp_or (thn (ha pins s σ H _ I h) fun v s1 ⟨x, H1, I1, r1, q1⟩ => ?_)
  obtain ⟨c, rfl, q1⟩ := q1
  cases r1
  refine wpAny_truthy_bool ?_
  cases c with
  | false => exact hb pins s1 σ H1 Q I1 q1
  | true => exact ⟨.bl true, H1, I1, rfl, q1⟩
theorem pe_not (ha : PE X a ta) : PE X (.UnaryOp .Not a pos) (tNotV ta) := by
  intro pins s σ H Q I h
  refine UnaryOp_ (thn (ha pins s σ H _ I h) fun v s1 ⟨x, H1, I1, r1, q1⟩ => ?_)
  obtain ⟨c, rfl, q1⟩ := q1
  cases r1
  exact not_of (wpAny_truthy_bool ⟨.bl (!c), H1, I1, rfl, q1⟩)
/-- a if t else b -/
def tIf (t : TT) (ta tb : TE) : TE := fun σ H Q => t σ H fun c H1 => if c = true then ta σ H1 Q else tb σ H1 Q
end
end L2

namespace L2
open PySem PySem.Spec PyProof.Rows

def SqL (K : PySem.W.Frag) (H : Hp) (a : Addr) (xs : List V) : Prop :=
  Rd H a (.lst xs) ∨
    ∃ (o : Obj) (its : Array Value) (n : Nat), K.lookup a = some o ∧ o.cls = .type "list" ∧ o.dict = none ∧ o.data = .seq its n ∧ its.size ≤ sizeLine ∧ Vals xs its.toList
def SqT (K : PySem.W.Frag) (H : Hp) (a : Addr) (xs : List V) : Prop :=
  Rd H a (.tup xs) ∨
    ∃ (o : Obj) (its : Array Value) (n : Nat), K.lookup a = some o ∧ o.cls = .type "tuple" ∧ o.data = .seq its n ∧ its.size ≤ sizeLine ∧ Vals xs its.toList
def absV : Value → Option V
  | .none => some .non
  | .bool b => some (.bl b)
  | .int i _ => some (.int i)
  | .str x _ => some (.str x)
  | .bytes b _ => some (.byt b)
  | .float b _ => some (.flt b)
  | .ref a => some (.ref a)
  | .type n => some (.ty n)
  | _ => none
theorem RelV.abs {x : V} {u : Value} (r : RelV x u) : absV u = some x := by
  cases x with
  | non => cases r; rfl
  | bl _ => cases r; rfl
  | int _ => obtain ⟨t, rfl⟩ := r; rfl
  | str _ => obtain ⟨t, rfl⟩ := r; rfl
  | byt _ => obtain ⟨t, rfl⟩ := r; rfl
  | flt _ => obtain ⟨t, rfl⟩ := r; rfl
  | ref _ => cases r; rfl
  | ty _ => cases r; rfl
theorem RelV.inj {x y : V} {u : Value} (r : RelV x u) (q : RelV y u) : x = y := Option.some.inj (r.abs.symm.trans q.abs)
theorem Vals.inj : ∀ {xs ys : List V} {us : List Value}, Vals xs us → Vals ys us → xs = ys
  | _, _, _, .nil, .nil => rfl
  | _, _, _, .cons r t, .cons r' t' => by rw [r.inj r', Vals.inj t t']
section
variable {X : Cx} {pins : List (Addr × Obj)} {σ : St} {H : Hp} {s : Shared} {a : Addr} {xs ys : List V}
theorem SqL.of {K : PySem.W.Frag} (h : H a = some (.lst xs)) : SqL K H a xs := .inl (.inl h)
theorem SqT.of {K : PySem.W.Frag} (h : H a = some (.tup xs)) : SqT K H a xs := .inl (.inl h)
theorem Inv.list (I : Inv X pins σ H s) (h : SqL X.K H a xs) : ∃ its : List Value, Vals xs its ∧ PlainL s.heap a its.toArray ∧ xs.length ≤ sizeLine := by
  rcases h with h | ⟨o, its, n, hk, hc, hd, hs, hz, r⟩
  · obtain ⟨z, its, n, r, e⟩ := h.ok I.hok
    exact ⟨its, r, ⟨_, n, e, rfl, rfl, rfl⟩, z⟩
  · refine ⟨its.toList, r, ⟨o, n, I.kIn a o hk, hc, hd, by simpa using hs⟩, ?_⟩
    have e := r.length
    simp only [Array.length_toList] at e
    omega
theorem Inv.tuple (I : Inv X pins σ H s) (h : SqT X.K H a xs) : ∃ its : List Value, Vals xs its ∧ IsTup s.heap a its.toArray ∧ xs.length ≤ sizeLine := by
  rcases h with h | ⟨o, its, n, hk, hc, hs, hz, r⟩
  · obtain ⟨z, its, r, p⟩ := h.ok I.hok
    exact ⟨its, r, p, z⟩
  · refine ⟨its.toList, r, ⟨o, I.kIn a o hk, hc, n, by simpa using hs⟩, ?_⟩
    have e := r.length
    simp only [Array.length_toList] at e
    omega
theorem Inv.list_inj (I : Inv X pins σ H s) (h : SqL X.K H a xs) (h' : SqL X.K H a ys) : xs = ys := by
  obtain ⟨its, r, ⟨o, n, e, _, _, d⟩, _⟩ := I.list h
  obtain ⟨its', r', ⟨o', n', e', _, _, d'⟩, _⟩ := I.list h'
  rw [e] at e'; cases e'
  rw [d] at d'
  injection d' with d1 _
  have : its = its' := by simpa using congrArg Array.toList d1
  subst this
  exact r.inj r'
end

abbrev Cx.wish (X : Cx) (E : Value → Shared → Prop) : Cx := { X with xe := E }
/-- no exception leaves -/
abbrev Cx.nox (X : Cx) : Cx := X.wish fun _ _ => False
theorem Cx.Ok.wish {X : Cx} (ok : X.Ok) (E : Value → Shared → Prop) : (X.wish E).Ok :=
  ⟨ok.mod, ok.kind, ok.glob, ok.blt, ok.above, ok.inj, ok.has, ok.cab, ok.hd, ok.frames, ok.stk, ok.exf, ok.bs, ok.bsz, ok.noex, ok.exfs, ok.funs, ok.frf⟩
theorem Cx.Ok.unwish {X : Cx} {E : Value → Shared → Prop} (ok : (X.wish E).Ok) : X.Ok :=
  ⟨ok.mod, ok.kind, ok.glob, ok.blt, ok.above, ok.inj, ok.has, ok.cab, ok.hd, ok.frames, ok.stk, ok.exf, ok.bs, ok.bsz, ok.noex, ok.exfs, ok.funs, ok.frf⟩
section
variable {X : Cx} {pins : List (Addr × Obj)} {σ : St} {H : Hp} {s : Shared} {E : Value → Shared → Prop}
theorem Inv.wish (I : Inv X pins σ H s) (E : Value → Shared → Prop) : Inv (X.wish E) pins σ H s := ⟨I.ok.wish E, I.os, I.bare, I.base, I.loc, I.cell, I.free, I.freeC, I.pin, I.hok, I.len⟩
theorem Inv.unwish (I : Inv (X.wish E) pins σ H s) : Inv X pins σ H s := ⟨I.ok.unwish, I.os, I.bare, I.base, I.loc, I.cell, I.free, I.freeC, I.pin, I.hok, I.len⟩
theorem SP.unwish {D : Ends} {f : Flow} {s' : Shared} (h : SP (X.wish E) pins D f s') : SP X pins D f s' := by
  cases f with
  | next => obtain ⟨σ', H', I, q⟩ := h; exact ⟨σ', H', I.unwish, q⟩
  | brk => obtain ⟨σ', H', I, q⟩ := h; exact ⟨σ', H', I.unwish, q⟩
  | cont => obtain ⟨σ', H', I, q⟩ := h; exact ⟨σ', H', I.unwish, q⟩
  | ret u => obtain ⟨v, σ', H', I, r, q⟩ := h; exact ⟨v, σ', H', I.unwish, r, q⟩
theorem PE.nox {e : Expr} {t : TE} (h : PE X.nox e t) : PE X e t := fun pins s σ H Q I hw =>
  wpAny_mono (h pins s σ H Q (I.wish _) hw) (fun _ _ ⟨v, H', I', r, q⟩ => ⟨v, H', I'.unwish, r, q⟩) fun _ _ z => False.elim z
theorem PT.nox {e : Expr} {t : TT} (h : PT X.nox e t) : PT X e t := fun pins s σ H Q I hw =>
  wpAny_mono (h pins s σ H Q (I.wish _) hw) (fun _ _ ⟨H', I', q⟩ => ⟨H', I'.unwish, q⟩) fun _ _ z => False.elim z
theorem PSs.nox {st : List Stmt} {t : TS} (h : PSs X.nox st t) : PSs X st t := fun pins s σ H D I hw =>
  wpAny_mono (h pins s σ H D (I.wish _) hw) (fun _ _ q => q.unwish) fun _ _ z => False.elim z
end

section
variable {X : Cx} {st : Stmt} {rest : List Stmt} {t u : TS} {e : Expr} {te : TE} {pos : Pos}
def tNext : TS := fun D σ H => D.nx σ H
def tSeq (t u : TS) : TS := fun D σ H => t { D with nx := u D } σ H
theorem pss_nil : PSs X [] tNext := fun _ _ σ H _ I h => wpAny_execs_nil ⟨σ, H, I, h⟩
theorem pss_cons (h1 : PS X st t) (h2 : PSs X rest u) : PSs X (st :: rest) (tSeq t u) := by
  intro pins s σ H D I h
  refine wpAny_execs_cons (thn (h1 pins s σ H { D with nx := u D } I h) fun f s1 q => ?_)
  cases f with
  | next =>
    obtain ⟨σ', H', I', q⟩ := q
    exact h2 pins s1 σ' H' D I' q
  | ret v => exact q
  | brk => exact q
  | cont => exact q
theorem pss_one (h1 : PS X st t) : PSs X [st] t := by
  intro pins s σ H D I h
  refine wpAny_execs_cons (thn (h1 pins s σ H D I h) fun f s1 q => ?_)
  cases f with
  | next => exact wpAny_execs_nil q
  | ret v => exact q
  | brk => exact q
  | cont => exact q
def tBreak : TS := fun D σ H => D.bk σ H
def tCont : TS := fun D σ H => D.ct σ H
/-- in a def's body nothing is shown -/
theorem Inv.quiet {pins : List (Addr × Obj)} {σ : St} {H : Hp} {s : Shared} (I : Inv X pins σ H s) : interactive X.env = false := by simp [interactive, I.ok.kind]
/-- an expression whose value is dropped -/
def tDrop (te : TE) : TS := fun D σ H => te σ H fun _ H1 => D.nx σ H1
theorem ps_expr (he : PE X e te) (hs : swapsWith e none pos.line X.env = pure false := by rfl) : PS X (.Expr e pos) (tDrop te) := by
  intro pins s σ H D I h
  exact wpAny_Expr_any (thn (he pins s σ H _ I h) fun v s1 ⟨x, H1, I1, r1, q1⟩ => ⟨σ, H1, I1, q1⟩) I.quiet hs
def tRet (te : TE) : TS := fun D σ H => te σ H D.rt
theorem ps_ret (he : PE X e te) : PS X (.Return (some e) pos) (tRet te) := by
  intro pins s σ H D I h
  exact wpAny_Return_some (thn (he pins s σ H _ I h) fun v s1 ⟨x, H1, I1, r1, q1⟩ => ⟨x, σ, H1, I1, r1, q1⟩)
def tRetN : TS := fun D _ H => D.rt .non H
def tIfS (c : TT) (t u : TS) : TS := fun D σ H => c σ H fun b H1 => if b = true then t D σ H1 else u D σ H1
theorem ps_if {c : Expr} {a b : List Stmt} {tc : TT} (hc : PT X c tc) (ha : PSs X a t) (hb : PSs X b u) : PS X (.If c a b pos) (tIfS tc t u) := by
  intro pins s σ H D I h
  refine wpAny_If (thn (hc pins s σ H _ I h) fun d s1 ⟨H1, I1, q1⟩ => ?_)
  cases d with
  | true => exact ha pins s1 σ H1 D I1 q1
  | false => exact hb pins s1 σ H1 D I1 q1
/-- code that the proof never comes to -/
def tNever : TS := fun _ _ _ => False
end

abbrev TG := V → St → Hp → (St → Hp → Prop) → Prop
abbrev TGs := List V → St → Hp → (St → Hp → Prop) → Prop
def PG (X : Cx) (target : Expr) (t : TG) : Prop :=
  ∀ (pins : List (Addr × Obj)) (s : Shared) (σ : St) (H : Hp) (v : V) (u : Value) (Q : St → Hp → Prop), Inv X pins σ H s → RelV v u → t v σ H Q →
    wpAny (model X.prog X.w) X.A (assign target X.env u) (fun _ s' => ∃ σ' H', Inv X pins σ' H' s' ∧ Q σ' H') X.xe s
/-- several targets, one after another -/
def PGs (X : Cx) (ts : List Expr) (t : TGs) : Prop :=
  ∀ (pins : List (Addr × Obj)) (s : Shared) (σ : St) (H : Hp) (vs : List V) (us : List Value) (Q : St → Hp → Prop), Inv X pins σ H s → Vals vs us → t vs σ H Q →
    wpAny (model X.prog X.w) X.A (assignInOrder ((assignEach ts X.env).map (·.2)) us) (fun _ s' => ∃ σ' H', Inv X pins σ' H' s' ∧ Q σ' H') X.xe s
/-- o[i] = v, by values -/
abbrev TSet := V → V → V → Hp → (Hp → Prop) → Prop
def PSet (X : Cx) (t : TSet) : Prop :=
  ∀ (pins : List (Addr × Obj)) (s : Shared) (σ : St) (H : Hp) (o i v : V) (ov iv u : Value) (Q : Hp → Prop), Inv X pins σ H s → RelV o ov → RelV i iv → RelV v u → t o i v H Q →
    wpAny (model X.prog X.w) X.A (setItem ov iv u) (fun _ s' => ∃ H', Inv X pins σ H' s' ∧ Q H') X.xe s
/-- a op= b, by values -/
abbrev TIp := V → V → Hp → VK → Prop
def PIp (X : Cx) (op : Operator) (t : TIp) : Prop :=
  ∀ (pins : List (Addr × Obj)) (s : Shared) (σ : St) (H : Hp) (x y : V) (v u : Value) (Q : VK), Inv X pins σ H s → RelV x v → RelV y u → t x y H Q →
    wpAny (model X.prog X.w) X.A (inplaceOp op v u) (EP X pins σ Q) X.xe s
section
variable {X : Cx} {pos : Pos}
def gName (i : Nat) : TG := fun v σ H Q => Q (σ.set i (some v)) H
theorem pg_name {i : Nat} {x : Str} (hN : X.N.Nodup) (hi : X.N[i]? = some x) (hx : Loc X.env.scope x) (hf : X.fn x = true ∨ X.env.scope.names.lookup x = some .local := by first | exact .inl rfl | exact .inr rfl | assumption) : PG X (.Name x pos) (gName i) := by
  intro pins s σ H v u Q I r h
  exact wpAny_assign_Name (store_ok I hN hi hx r (fun s' I' => ⟨_, H, I', h⟩) hf)
def gNil : TGs := fun vs σ H Q => vs = [] ∧ Q σ H
def gCons (t : TG) (u : TGs) : TGs := fun vs σ H Q => ∃ v r, vs = v :: r ∧ t v σ H fun σ' H' => u r σ' H' Q
theorem pgs_nil : PGs X [] gNil := by
  intro pins s σ H vs us Q I r h
  obtain ⟨e, h⟩ := h
  subst e
  cases r
  exact assignInOrder_nil ⟨σ, H, I, h⟩
theorem pgs_cons {e : Expr} {es : List Expr} {t : TG} {u : TGs} (h1 : PG X e t) (h2 : PGs X es u)
    (hs : (assignEach (e :: es) X.env).map (·.2) = assign e X.env :: (assignEach es X.env).map (·.2) := by rfl) : PGs X (e :: es) (gCons t u) := by
  intro pins s σ H vs us Q I r h
  obtain ⟨v, vr, e1, h⟩ := h
  subst e1
  cases r with
  | cons r rr =>
    rw [hs]
    refine assignInOrder_cons (thn (h1 pins s σ H _ _ _ I r h) fun _ s1 ⟨σ1, H1, I1, q1⟩ => ?_)
    exact h2 pins s1 σ1 H1 _ _ Q I1 rr q1
/-- (a, b, ..) = a tuple of that length -/
def gTup (K : PySem.W.Frag) (n : Nat) (t : TGs) : TG := fun v σ H Q => ∃ a xs, v = .ref a ∧ SqT K H a xs ∧ xs.length = n ∧ t xs σ H Q
theorem pg_tup {es : List Expr} {k : Nat} {t : TGs} {n : Nat} (hc : X.calm = true) (h : PGs X es t)
    (hn : (assignEach es X.env).length = n := by rfl) (hst : (assignEach es X.env).findIdx? (·.1) = none := by rfl) : PG X (.Tuple es k pos) (gTup X.K n t) := by
  intro pins s σ H v u Q I r hw
  obtain ⟨a, xs, e1, hq, hl, hw⟩ := hw
  subst e1
  cases r
  obtain ⟨its, rv, ht, hz⟩ := I.tuple hq
  refine assign_Tuple_tuple (I.ok.hd hc) ht (by simp [hn, ← hl, rv.length]) hst fun h' hx => ?_
  have I1 : Inv X pins σ H { s with heap := h' } := I.kept (t' := s.toks) fun b o e => hx b o (Nat.ne_of_lt (Heap.lt_size e)) e
  exact h pins _ σ H xs _ Q I1 (by simpa using rv) hw
/-- o[i] = .. -/
def gSub (to ti : TE) (t : TSet) : TG := fun v σ H Q => to σ H fun o H1 => ti σ H1 fun i H2 => t o i v H2 fun H3 => Q σ H3
theorem pg_sub {o i : Expr} {to ti : TE} {t : TSet} (ho : PE X o to) (hi : PE X i ti) (hs : PSet X t)
    (ha : ∀ v, assign (.Subscript o i pos) X.env v = (do
      let ov ← holding [v] (eval o X.env)
      let iv ← holding [v, ov] (eval i X.env)
      standAt pos
      holding [v, ov, iv] (setItem ov iv v)
      release [v, ov, iv] []) := by intro _; rfl) : PG X (.Subscript o i pos) (gSub to ti t) := by
  intro pins s σ H v u Q I r h
  rw [ha]
  refine wpAny_bind (wpAny_holding (thn (ho pins s σ H _ I h) fun ov s1 ⟨x, H1, I1, r1, q1⟩ => ?_))
  refine wpAny_bind (wpAny_holding (thn (hi pins s1 σ H1 _ I1 q1) fun iv s2 ⟨y, H2, I2, r2, q2⟩ => ?_))
  refine wpAny_bind (wpAny_standAt (wpAny_bind (wpAny_holding (thn (hs pins s2 σ H2 x y v ov iv u _ I2 r1 r2 r q2) fun _ s3 ⟨H3, I3, q3⟩ => ?_))))
  exact wpAny_release ⟨σ, H3, I3, q3⟩
/-- target = value -/
def tAsg (te : TE) (g : TG) : TS := fun D σ H => te σ H fun x H1 => g x σ H1 D.nx
theorem ps_asg {tg e : Expr} {te : TE} {g : TG} (he : PE X e te) (hg : PG X tg g) (hs : swapsWithSole [tg] e pos.line X.env = pure false := by rfl) (hw : swappedStores [tg] e X.env = pure none := by rfl)
    (h1 : (assignEach [tg] X.env).map (·.2) = [assign tg X.env] := by rfl) : PS X (.Assign [tg] e pos) (tAsg te g) := by
  intro pins s σ H D I h
  refine wpAny_Assign_stores (thn (he pins s σ H _ I h) fun v s1 ⟨x, H1, I1, r1, q1⟩ => ?_) hs hw
  rw [h1]
  exact thn (hg pins s1 σ H1 x v _ I1 r1 q1) fun _ s2 q => q
/-- name = value -/
theorem ps_set {i : Nat} {x : Str} {e : Expr} {te : TE} {pos' : Pos} (hN : X.N.Nodup) (hi : X.N[i]? = some x) (hx : Loc X.env.scope x) (he : PE X e te) (hs : swapsWith e (some (.Name x pos')) pos.line X.env = pure false := by rfl) (hf : X.fn x = true ∨ X.env.scope.names.lookup x = some .local := by first | exact .inl rfl | exact .inr rfl | assumption) :
    PS X (.Assign [.Name x pos'] e pos) (tAsg te (gName i)) := by
  intro pins s σ H D I h
  refine wpAny_Assign_Name (thn (he pins s σ H _ I h) fun v s1 ⟨y, H1, I1, r1, q1⟩ => ?_) hs
  exact store_ok I1 hN hi hx r1 (fun s2 I2 => ⟨_, H1, I2, q1⟩) hf
/-- a, b = x, y with plain local names: stored from the right; the pair itself is not tracked (the opening rows as in PyProof/Rows/TupAssign.lean:23) -/
def tPar (i j : Nat) (ta : TA) : TS := fun D σ H => ta σ H fun vs H1 => ∃ v w, vs = [v, w] ∧ D.nx ((σ.set i (some v)).set j (some w)) H1
/-- name op= e -/
def tAug (i : Nat) (te : TE) (ti : TIp) : TS := fun D σ H => ∃ x, σ[i]? = some (some x) ∧ te σ H fun y H1 => ti x y H1 fun z H2 => D.nx (σ.set i (some z)) H2
/-- o[i] op= e -/
def tAugS (to ti te : TE) (tget : V → V → Hp → VK → Prop) (tip : TIp) (tset : TSet) : TS := fun D σ H => to σ H fun o H1 => ti σ H1 fun i H2 => tget o i H2 fun x H3 => te σ H3 fun y H4 => tip x y H4 fun z H5 => tset o i z H5 fun H6 => D.nx σ H6
/-- o[i], by values -/
def PGet (X : Cx) (t : V → V → Hp → VK → Prop) : Prop :=
  ∀ (pins : List (Addr × Obj)) (s : Shared) (σ : St) (H : Hp) (o i : V) (ov iv : Value) (Q : VK), Inv X pins σ H s → RelV o ov → RelV i iv → t o i H Q →
    wpAny (model X.prog X.w) X.A (getItem ov iv) (EP X pins σ Q) X.xe s
/-- ints -/
def ipI (f : Int → Int → Int) : TIp := fun x y H Q => ∃ i j, x = .int i ∧ y = .int j ∧ Q (.int (f i j)) H
end

section
variable {X : Cx} {pos : Pos}
/-- the invariant W with its measure -/
def tWhile (c : TT) (tb : TS) : TS := fun D σ H => ∃ W : Nat → St → Hp → Prop, (∃ m, W m σ H) ∧ ∀ m σ H, W m σ H →
  c σ H fun b H1 => if b = true then ∃ N : St → Hp → Prop, (∀ σ' H', N σ' H' → ∃ m', m' < m ∧ W m' σ' H') ∧ tb { D with nx := N, ct := N, bk := D.nx } σ H1 else D.nx σ H1
theorem ps_while {c : Expr} {body : List Stmt} {tc : TT} {tb : TS} (hp : PassesOwn (model X.prog X.w) X.A X.env X.xe) (hc : PT X c tc) (hb : PSs X body tb) : PS X (.While c body [] pos) (tWhile tc tb) := by
  intro pins s σ H D I h
  obtain ⟨W, ⟨m0, w0⟩, turn⟩ := h
  refine wpAny_While (codeAny_whileLoop (fun n s' => ∃ σ' H', Inv X pins σ' H' s' ∧ W n σ' H') ?_ m0 ⟨σ, H, I, w0⟩)
  rintro n s1 ⟨σ1, H1, I1, w1⟩
  refine wpAny_passesOwn hp (thn (hc pins s1 σ1 H1 _ I1 (turn n σ1 H1 w1)) fun b s2 ⟨H2, I2, q2⟩ => ?_)
  cases b with
  | true =>
    obtain ⟨N, hN, q2⟩ := q2
    rw [if_pos rfl]
    refine wpAny_passesOwn hp (thn (hb pins s2 σ1 H2 _ I2 q2) fun f s3 q3 => ?_)
    cases f with
    | next =>
      obtain ⟨σ3, H3, I3, n3⟩ := q3
      obtain ⟨m', hm, w3⟩ := hN σ3 H3 n3
      exact ⟨m', hm, σ3, H3, I3, w3⟩
    | cont =>
      obtain ⟨σ3, H3, I3, n3⟩ := q3
      obtain ⟨m', hm, w3⟩ := hN σ3 H3 n3
      exact ⟨m', hm, σ3, H3, I3, w3⟩
    | brk => exact q3
    | ret v => exact q3
  | false =>
    rw [if_neg Bool.false_ne_true]
    exact wpAny_execs_nil ⟨σ1, H2, I2, q2⟩
end

/-- at turn i: it yields x (the heap may grow), or it stops -/
structure It where
  go : Nat → Hp → Prop
  yld : Nat → Hp → V → Hp → Prop
  stop : Nat → Hp → Prop
/-- the iterator's own objects may turn: they are not the frame's, not pinned, younger than the entry (or a comprehension's own) -/
def FpOk (X : Cx) (pins : List (Addr × Obj)) (H : Hp) (b : Addr) : Prop :=
  H b = none ∧ b ≠ X.env.locals ∧ b ∉ X.fs ∧ (b ∈ X.ex ∨ X.s₀.heap.objs.size ≤ b) ∧ (∀ x c, X.env.cells.lookup x = some c → c ≠ b) ∧ ∀ p ∈ X.pn ++ pins, p.1 ≠ b
theorem Inv.fpOk {X : Cx} {pins : List (Addr × Obj)} {σ : St} {H H' : Hp} {s : Shared} {b : Addr} (I : Inv X pins σ H s) (hb : s.heap.objs.size ≤ b) (hn : H' b = none) : FpOk X pins H' b := by
  refine ⟨hn, Nat.ne_of_gt (Nat.lt_of_lt_of_le I.lt hb), I.nofs hb, .inr (Nat.le_trans I.sz hb), fun x c e z => ?_, fun p hp z => ?_⟩
  · obtain ⟨v, q⟩ := I.cell x c e
    exact absurd (Nat.lt_of_lt_of_le q.lt (by rw [z]; exact hb)) (Nat.lt_irrefl _)
  · exact absurd (Nat.lt_of_lt_of_le (Heap.lt_size (I.pin p hp).1) (by rw [z]; exact hb)) (Nat.lt_irrefl _)
structure Turn (P : Program) (w : World) (K : PySem.W.Frag) (tg : Expr) (J : It) (fp : List Addr) (it : Addr) (tn : Nat → Heap → Prop) : Prop where
  mem : it ∈ fp
  obj : ∀ i h, tn i h → ∀ b ∈ fp, ∃ o, h.get? b = some o ∧ ∀ v, o.data ≠ .cell v
  keep : ∀ i h h', tn i h → (∀ b ∈ fp, ∀ o, h.get? b = some o → h'.get? b = some o) → tn i h'
  item : ∀ (X : Cx), X.prog = P → X.w = w → X.K = K → X.calm = true → ∀ (i : Nat) (pins : List (Addr × Obj)) (s : Shared) (σ : St) (H : Hp) (E : Value → Shared → Prop), Inv X pins σ H s → (∀ b ∈ fp, FpOk X pins H b) → tn i s.heap → J.go i H →
    wpAny (model P w) X.A (pyNext (.ref it)) (fun r s1 => ∃ u, r = some u ∧
      wpAny (model P w) X.A (letOwnedTupleGo tg (.ref it) u) (fun _ s2 => ∃ x H', Inv X pins σ H' s2 ∧ RelV x u ∧ J.yld i H x H' ∧ tn (i + 1) s2.heap ∧ ∀ b ∈ fp, H' b = none) E s1) E s
  done : ∀ (X : Cx), X.prog = P → X.w = w → X.K = K → X.calm = true → ∀ (i : Nat) (pins : List (Addr × Obj)) (s : Shared) (σ : St) (H : Hp) (E : Value → Shared → Prop), Inv X pins σ H s → (∀ b ∈ fp, FpOk X pins H b) → tn i s.heap → J.stop i H →
    wpAny (model P w) X.A (pyNext (.ref it)) (fun r s1 => r = none ∧ Inv X pins σ H s1) E s
  self : ∀ (A : Around) (i : Nat) (s : Shared) (Q : Value → Shared → Prop) (E : Value → Shared → Prop), tn i s.heap → Q (.ref it) s → wpAny (model P w) A (pyIter (.ref it)) Q E s
abbrev TI := St → Hp → (It → Hp → Prop) → Prop
/-- an iterator has come -/
def PIE (X : Cx) (pins : List (Addr × Obj)) (σ : St) (tg : Expr) (R : It → Hp → Prop) (itv : Value) (s2 : Shared) : Prop :=
  ∃ (it : Addr) (fp : List Addr) (tn : Nat → Heap → Prop) (J : It) (H' : Hp), itv = .ref it ∧ Inv X pins σ H' s2 ∧ Turn X.prog X.w X.K tg J fp it tn ∧ tn 0 s2.heap ∧ (∀ b ∈ fp, FpOk X pins H' b) ∧ R J H'
def PI (X : Cx) (tg iter : Expr) (wi : TI) : Prop :=
  ∀ (pins : List (Addr × Obj)) (s : Shared) (σ : St) (H : Hp) (R : It → Hp → Prop), Inv X pins σ H s → wi σ H R →
    wpAny (model X.prog X.w) X.A (eval iter X.env) (fun v s1 => wpAny (model X.prog X.w) X.A (pyIter v) (PIE X pins σ tg R) X.xe s1) X.xe s

/-- the step ahead of the store is nothing for an iterator that keeps no tuple -/
theorem go_of {M : Model} {A : Around} {E : Value → Shared → Prop} {s : Shared} {tg : Expr} {it : Addr} {u : Value} {o : Obj} {n : String} {vs : Array Value} {Q : Unit → Shared → Prop} (ho : s.heap.get? it = some o) (hc : o.cls = .type n) (hd : o.data = .fields vs)
    (hn : ["enumerate", "zip", "dict_itemiterator", "dict_reverseitemiterator", "odict_iterator", "itertools.zip_longest", "itertools.pairwise"].contains n = false) (hQ : Q () s) : wpAny M A (letOwnedTupleGo tg (.ref it) u) Q E s := by
  unfold letOwnedTupleGo
  cases tg <;> first
    | exact wpAny_pure hQ
    | (cases u <;> first
        | exact wpAny_pure hQ
        | (refine wpAny_bind (wpAny_load ho ?_)
           rw [hc, hd]
           show wpAny M A (if (["enumerate", "zip", "dict_itemiterator", "dict_reverseitemiterator", "odict_iterator", "itertools.zip_longest", "itertools.pairwise"].contains n && vs[0]? == some (rawInt _)) = true then _ else _) Q E s
           rw [if_neg (by intro h; rw [hn, Bool.false_and] at h; cases h)]
           exact wpAny_pure hQ))

/-- the list at a, as it stands at each turn (a loop may append to it) -/
def Itl (K : PySem.W.Frag) (a : Addr) : It :=
  ⟨fun i H => ∃ xs x, SqL K H a xs ∧ xs[i]? = some x, fun i H x H' => H' = H ∧ ∀ xs, SqL K H a xs → xs[i]? = some x, fun i H => ∃ xs, SqL K H a xs ∧ xs.length ≤ i⟩
def Itt (K : PySem.W.Frag) (a : Addr) : It :=
  ⟨fun i H => ∃ xs x, SqT K H a xs ∧ xs[i]? = some x, fun i H x H' => H' = H ∧ ∀ xs, SqT K H a xs → xs[i]? = some x, fun i H => ∃ xs, SqT K H a xs ∧ xs.length ≤ i⟩
/-- lo, lo + 1, .. (n of them) -/
def Itr (lo : Int) (n : Nat) : It := ⟨fun i _ => i < n, fun i H x H' => H' = H ∧ x = .int (lo + i), fun i _ => n ≤ i⟩
theorem turn_list {P : Program} {w : World} {K : PySem.W.Frag} {tg : Expr} (a it : Addr) : Turn P w K tg (Itl K a) [it] it (fun i h => h.IsListIter it a i) where
  mem := by simp
  obj := fun i h st b hb => by
    have e : b = it := by simpa using hb
    subst e
    obtain ⟨o, e, c, d⟩ := st
    exact ⟨o, e, fun v z => by rw [d] at z; cases z⟩
  keep := fun i h h' st k => st.at fun o e => k it (by simp) o e
  item := by
    intro X hP hw hK hc i pins s σ H E I hf st hg
    subst hP hw hK
    obtain ⟨xs, x, hq, hx⟩ := hg
    obtain ⟨its, rv, p, hz⟩ := I.list hq
    obtain ⟨u, hu, ru⟩ := rv.get hx
    obtain ⟨f0, f1, f2, f3, f4, f5⟩ := hf it (by simp)
    refine wpAny_pyNext_list_item st p.isList (x := u) (by simpa using hu) fun h' st' sb => ?_
    have I1 : Inv X pins σ H { s with heap := h' } := I.turned (t' := s.toks) (fun b o hb e => (sb.2 b hb).trans e) f0 f1 f3 f4 f5
    obtain ⟨o, e, c, d⟩ := id st'
    exact ⟨u, rfl, go_of (s := { s with heap := h' }) e c d (by decide) ⟨x, H, I1, ru, ⟨rfl, fun ys hy => by rw [I.list_inj hy hq]; exact hx⟩, st', fun b hb => (hf b hb).1⟩⟩
  done := by
    intro X hP hw hK hc i pins s σ H E I hf st hg
    subst hP hw hK
    obtain ⟨xs, hq, hx⟩ := hg
    obtain ⟨its, rv, p, hz⟩ := I.list hq
    obtain ⟨f0, f1, f2, f3, f4, f5⟩ := hf it (by simp)
    have hl := rv.length
    exact wpAny_pyNext_list_end (I.ok.hd hc) st p.isList (by simp; omega) fun h' eb => ⟨rfl, I.turned (t' := s.toks) (fun b o hb e => eb b o hb e) f0 f1 f3 f4 f5⟩
  self := fun _ _ _ _ _ st h => wpAny_pyIter_listiter st h
theorem turn_range {P : Program} {w : World} {K : PySem.W.Frag} {tg : Expr} (it : Addr) (lo : Int) (n : Nat) : Turn P w K tg (Itr lo n) [it] it (fun i h => IsRangeIter h it (lo + (i : Nat) * 1) ((n : Int) - (i : Nat)) 1) where
  mem := by simp
  obj := fun i h st b hb => by
    have e : b = it := by simpa using hb
    subst e
    exact ⟨_, st, fun v z => by
      have z' : Data.fields _ = Data.cell v := z
      cases z'⟩
  keep := fun i h h' st k => k it (by simp) _ st
  item := by
    intro X hP hw hK hc i pins s σ H E I hf st hg
    subst hP hw hK
    obtain ⟨f0, f1, f2, f3, f4, f5⟩ := hf it (by simp)
    have W := Walks.range (prog := X.prog) (w := X.w) (I.ok.hd hc) it lo 1 n
    refine W.item i s _ _ hg st fun v h' tk hv st' kk => ?_
    obtain ⟨t, rfl⟩ := hv
    have I1 : Inv X pins σ H { s with heap := h', toks := tk } := I.turned (fun b o hb e => kk b o (by simpa using hb) e) f0 f1 f3 f4 f5
    refine ⟨_, rfl, go_of (s := { s with heap := h', toks := tk }) (n := "range_iterator") st' rfl rfl (by decide) ⟨.int (lo + i), H, I1, ⟨t, ?_⟩, ⟨rfl, rfl⟩, st', fun b hb => (hf b hb).1⟩⟩
    rw [Int.mul_one]
  done := by
    intro X hP hw hK hc i pins s σ H E I hf st hg
    subst hP hw hK
    obtain ⟨f0, f1, f2, f3, f4, f5⟩ := hf it (by simp)
    exact wpAny_pyNext_range_end (I.ok.hd hc) st (by have : n ≤ i := hg; omega) fun h' eb => ⟨rfl, I.turned (t' := s.toks) (fun b o hb e => eb b o hb e) f0 f1 f3 f4 f5⟩
  self := fun _ _ _ _ _ st h => wpAny_pyIter_rangeiter st h
end L2

namespace L2
open PySem PySem.Spec PyProof.Rows
section
variable {X : Cx} {tg : Expr}
def iList (K : PySem.W.Frag) (tl : TE) : TI := fun σ H R => tl σ H fun x H1 => ∃ a, x = .ref a ∧ (∃ xs, SqL K H1 a xs) ∧ R (Itl K a) H1
def iTup (K : PySem.W.Frag) (tl : TE) : TI := fun σ H R => tl σ H fun x H1 => ∃ a, x = .ref a ∧ (∃ xs, SqT K H1 a xs) ∧ R (Itt K a) H1
theorem pi_list {l : Expr} {tl : TE} (hl : PE X l tl) : PI X tg l (iList X.K tl) := by
  intro pins s σ H R I h
  refine thn (hl pins s σ H _ I h) fun v s1 ⟨x, H1, I1, r1, q1⟩ => ?_
  obtain ⟨a, e, ⟨xs, hq⟩, q⟩ := q1
  subst e
  cases r1
  obtain ⟨its, rv, p, hz⟩ := I1.list hq
  refine wpAny_pyIter_list p.isList ?_
  refine ⟨s1.heap.objs.size, [s1.heap.objs.size], _, _, H1, rfl, I1.kept (t' := s1.toks) fun b o e => Heap.get?_push_of_some _ e, turn_list a _, ⟨_, Heap.get?_push_size _ rfl, rfl, rfl⟩, fun b hb => ?_, q⟩
  have e : b = s1.heap.objs.size := by simpa using hb
  subst e
  exact I1.fpOk (Nat.le_refl _) (I1.hok.fresh (Nat.le_refl _))
/-- a range object just made, walked -/
theorem range_it {pins : List (Addr × Obj)} {σ : St} {H : Hp} {s : Shared} {R : It → Hp → Prop} {E : Value → Shared → Prop} {lo hi : Int} {t u v : Tok} {tk : Nat} (I : Inv X pins σ H s) (h1 : -(2 ^ 62) ≤ lo) (h2 : lo < 2 ^ 62) (h3 : -(2 ^ 62) ≤ hi) (h4 : hi < 2 ^ 62)
    (q : R (Itr lo (hi - lo).toNat) H) : wpAny (model X.prog X.w) X.A (pyIter (.ref s.heap.objs.size)) (PIE X pins σ tg R) E { s with heap := s.heap.push { cls := .type "range", data := .fields #[.int lo t, .int hi u, .int 1 v] }, toks := tk } := by
  refine wpAny_pyIter_range (IsRange.new ..) (small_one h1 h2 h3 h4) ?_
  have I1 : Inv X pins σ H { s with heap := s.heap.push { cls := .type "range", data := .fields #[.int lo t, .int hi u, .int 1 v] }, toks := tk } := I.kept fun b o e => Heap.get?_push_of_some _ e
  refine ⟨(s.heap.push { cls := .type "range", data := .fields #[.int lo t, .int hi u, .int 1 v] }).objs.size, [(s.heap.push { cls := .type "range", data := .fields #[.int lo t, .int hi u, .int 1 v] }).objs.size], _, _, H, rfl,
    I1.kept (t' := tk) fun b o e => Heap.get?_push_of_some _ e, turn_range _ lo (hi - lo).toNat, ?_, fun b hb => ?_, q⟩
  · have e1 : lo + ((0 : Nat) : Int) * 1 = lo := by simp
    have e2 : (((hi - lo).toNat : Nat) : Int) - ((0 : Nat) : Int) = Builtin.Range.rangeSize lo hi 1 := by rw [rangeSize_one]; split <;> omega
    show IsRangeIter _ _ (lo + ((0 : Nat) : Int) * 1) ((((hi - lo).toNat : Nat) : Int) - ((0 : Nat) : Int)) 1
    rw [e1, e2]
    exact Heap.get?_push_size _ rfl
  · have e : b = (s.heap.push { cls := .type "range", data := .fields #[.int lo t, .int hi u, .int 1 v] }).objs.size := by simpa using hb
    subst e
    exact I1.fpOk (Nat.le_refl _) (I1.hok.fresh (Nat.le_refl _))
def iRng1 (ta : TA) : TI := fun σ H R => ta σ H fun vs H1 => ∃ j : Int, vs = [.int j] ∧ -(2 ^ 62) ≤ j ∧ j < 2 ^ 62 ∧ R (Itr 0 j.toNat) H1
def iRng2 (ta : TA) : TI := fun σ H R => ta σ H fun vs H1 => ∃ i j : Int, vs = [.int i, .int j] ∧ (-(2 ^ 62) ≤ i ∧ i < 2 ^ 62 ∧ -(2 ^ 62) ≤ j ∧ j < 2 ^ 62) ∧ R (Itr i (j - i).toNat) H1
theorem pi_range1 {a : Expr} {ta : TA} {p pos : Pos} (hg : Gl X "range") (hm : X.mg "range" = none) (ha : PA X [a] ta) (hs : starEach [a] X.env = [(false, eval a X.env)] := by rfl) : PI X tg (.Call (.Name "range" p) [a] [] pos) (iRng1 ta) := by
  intro pins s σ H R I h
  refine Call_ (ld_blt I hg hm boot_range (PyProof.Rows.callWith_type1 (thn (ha pos pins s σ H _ I h) fun us s1 ⟨vs, H1, I1, r1, q1⟩ => ?_) hs rfl))
  obtain ⟨j, e, q1, q2, q⟩ := q1
  subst e
  cases r1 with
  | cons r rr =>
    cases rr
    obtain ⟨t, rfl⟩ := r
    exact call_range_1 (range_it I1 (by omega) (by omega) q1 q2 (by simpa using q))
/-- W: the invariant by the turn and a measure; N: what the body is to reach -/
def tFor (wi : TI) (g : TG) (tb : TS) : TS := fun D σ H => wi σ H fun J H1 => ∃ W : Nat → Nat → St → Hp → Prop, (∃ m, W 0 m σ H1) ∧ ∀ i m σ H, W i m σ H →
  (J.stop i H ∧ D.nx σ H) ∨ (J.go i H ∧ ∃ N : St → Hp → Prop, (∀ σ' H', N σ' H' → ∃ m', m' < m ∧ W (i + 1) m' σ' H') ∧ ∀ x H', J.yld i H x H' → g x σ H' fun σ2 H2 => tb { D with nx := N, ct := N, bk := D.nx } σ2 H2)
/-- the records at fp as they stand -/
def pinsAt (fp : List Addr) (h : Heap) : List (Addr × Obj) := fp.filterMap fun b => (h.get? b).map fun o => (b, o)
theorem mem_pinsAt {fp : List Addr} {h : Heap} {b : Addr} {o : Obj} (hb : b ∈ fp) (e : h.get? b = some o) : (b, o) ∈ pinsAt fp h := List.mem_filterMap.mpr ⟨b, hb, by rw [e]; rfl⟩
theorem of_pinsAt {fp : List Addr} {h : Heap} {p : Addr × Obj} (hp : p ∈ pinsAt fp h) : p.1 ∈ fp ∧ h.get? p.1 = some p.2 := by
  obtain ⟨b, hb, e⟩ := List.mem_filterMap.mp hp
  cases q : h.get? b with
  | none => rw [q] at e; cases e
  | some o =>
    rw [q] at e
    have e' : (b, o) = p := Option.some.inj e
    subst e'
    exact ⟨hb, q⟩
theorem Inv.pinned {pins : List (Addr × Obj)} {σ : St} {H : Hp} {s : Shared} {fp : List Addr} (I : Inv X pins σ H s) (hf : ∀ b ∈ fp, FpOk X pins H b) (ho : ∀ b ∈ fp, ∃ o, s.heap.get? b = some o ∧ ∀ v, o.data ≠ .cell v) : Inv X (pins ++ pinsAt fp s.heap) σ H s :=
  I.pins_of fun p hp => (List.mem_append.mp hp).elim (fun z => I.pin p (List.mem_append_right _ z)) fun z => by
    obtain ⟨hb, e⟩ := of_pinsAt z
    obtain ⟨f0, f1, f2, _⟩ := hf p.1 hb
    obtain ⟨o, e', d⟩ := ho p.1 hb
    rw [e] at e'; cases e'
    exact ⟨e, f0, f1, f2, d⟩
theorem Inv.unpinned {pins pl : List (Addr × Obj)} {σ : St} {H : Hp} {s : Shared} (I : Inv X (pins ++ pl) σ H s) : Inv X pins σ H s := I.pins_of fun p hp => I.pin p (List.mem_append_right _ (List.mem_append_left _ hp))
theorem ps_for {iter : Expr} {body : List Stmt} {wi : TI} {g : TG} {tb : TS} {pos : Pos} (hp : PassesOwn (model X.prog X.w) X.A X.env X.xe) (hc : X.calm = true) (hi : PI X tg iter wi) (hg : PG X tg g) (hb : PSs X body tb)
    (hs : ∀ x, foldedSetIterable iter X.env x = pure x := by intro _; rfl) : PS X (.For tg iter body [] pos) (tFor wi g tb) := by
  intro pins s σ H D I h
  refine wpAny_For (thn (hi pins s σ H _ I h) fun v s1 h1 => thn h1 fun itv s2 h2 => ?_) hs
  obtain ⟨it, fp, tn, J, H2, e, I2, T, st2, f2, W, ⟨m0, w0⟩, turn⟩ := h2
  subst e
  -- what stays true of the iterator's objects through the loop
  have stat : ∀ {H' : Hp}, (∀ b ∈ fp, H' b = none) → ∀ b ∈ fp, FpOk X pins H' b := fun hn b hb => ⟨hn b hb, (f2 b hb).2⟩
  refine codeAny_forLoop_any (fun n s' => ∃ i σ' H', Inv X pins σ' H' s' ∧ tn i s'.heap ∧ (∀ b ∈ fp, H' b = none) ∧ W i n σ' H') ?_ m0 ⟨0, σ, H2, I2, st2, fun b hb => (f2 b hb).1, w0⟩
  rintro n s3 ⟨i, σ3, H3, I3, st3, fr3, w3⟩
  rcases turn i n σ3 H3 w3 with ⟨stop, qn⟩ | ⟨go, N, hN, step⟩
  · refine wpAny_passesOwn hp (thn (T.done X rfl rfl rfl hc i pins s3 σ3 H3 X.xe I3 (stat fr3) st3 stop) fun r s4 ⟨hr, I4⟩ => ?_)
    subst hr
    exact wpAny_execs_nil ⟨σ3, H3, I4, qn⟩
  · refine wpAny_passesOwn hp (thn (T.item X rfl rfl rfl hc i pins s3 σ3 H3 X.xe I3 (stat fr3) st3 go) fun r s4 ⟨u, hr, h4⟩ => ?_)
    subst hr
    refine wpAny_passesOwn hp (thn h4 fun _ s5 ⟨x, H5, I5, r5, y5, st5, fr5⟩ => ?_)
    have I5' := I5.pinned (stat fr5) (T.obj _ _ st5)
    refine wpAny_passesOwn hp (thn (hg _ s5 σ3 H5 x u _ I5' r5 (step x H5 y5)) fun _ s6 ⟨σ6, H6, I6, q6⟩ => ?_)
    refine wpAny_passesOwn hp (thn (hb _ s6 σ6 H6 _ I6 q6) fun f s7 q7 => ?_)
    have again : ∀ {σ7 : St} {H7 : Hp}, Inv X (pins ++ pinsAt fp s5.heap) σ7 H7 s7 → N σ7 H7 → ∃ m, m < n ∧ ∃ i σ' H', Inv X pins σ' H' s7 ∧ tn i s7.heap ∧ (∀ b ∈ fp, H' b = none) ∧ W i m σ' H' := fun {σ7 H7} I7 n7 => by
      obtain ⟨m', hm, w7⟩ := hN σ7 H7 n7
      refine ⟨m', hm, i + 1, σ7, H7, I7.unpinned, T.keep _ _ _ st5 fun b hb o e => (I7.pin (b, o) (List.mem_append_right _ (List.mem_append_right _ (mem_pinsAt hb e)))).1, fun b hb => ?_, w7⟩
      obtain ⟨o, e, d⟩ := T.obj _ _ st5 b hb
      exact (I7.pin (b, o) (List.mem_append_right _ (List.mem_append_right _ (mem_pinsAt hb e)))).2.1
    cases f with
    | next => obtain ⟨σ7, H7, I7, n7⟩ := q7; exact again I7 n7
    | cont => obtain ⟨σ7, H7, I7, n7⟩ := q7; exact again I7 n7
    | brk => obtain ⟨σ7, H7, I7, q7⟩ := q7; exact ⟨σ7, H7, I7.unpinned, q7⟩
    | ret v => obtain ⟨x7, σ7, H7, I7, r7, q7⟩ := q7; exact ⟨x7, σ7, H7, I7.unpinned, r7, q7⟩
end

/-- over a list that the body leaves as it is -/
theorem for_list {K : PySem.W.Frag} {a : Addr} {xs : List V} {g : TG} {tb : TS} {D : Ends} {σ : St} {H : Hp} (Pv : Nat → St → Hp → Prop) (h0 : Pv 0 σ H) (hl : ∀ i σ H, i ≤ xs.length → Pv i σ H → SqL K H a xs)
    (hs : ∀ i x σ H, xs[i]? = some x → Pv i σ H → g x σ H fun σ2 H2 => tb { D with nx := Pv (i + 1), ct := Pv (i + 1), bk := D.nx } σ2 H2) (hd : ∀ σ H, Pv xs.length σ H → D.nx σ H) :
    ∃ W : Nat → Nat → St → Hp → Prop, (∃ m, W 0 m σ H) ∧ ∀ i m σ H, W i m σ H →
      ((Itl K a).stop i H ∧ D.nx σ H) ∨ ((Itl K a).go i H ∧ ∃ N : St → Hp → Prop, (∀ σ' H', N σ' H' → ∃ m', m' < m ∧ W (i + 1) m' σ' H') ∧ ∀ x H', (Itl K a).yld i H x H' → g x σ H' fun σ2 H2 => tb { D with nx := N, ct := N, bk := D.nx } σ2 H2) := by
  refine ⟨fun i m σ H => m = xs.length - i ∧ i ≤ xs.length ∧ Pv i σ H, ⟨xs.length, by simp, Nat.zero_le _, h0⟩, ?_⟩
  rintro i m σ H ⟨rfl, hi, p⟩
  have q := hl i σ H hi p
  by_cases hlt : i < xs.length
  · refine .inr ⟨⟨xs, xs[i], q, by simp [hlt]⟩, Pv (i + 1), fun σ' H' p' => ⟨xs.length - (i + 1), by omega, rfl, hlt, p'⟩, fun x H' y => ?_⟩
    obtain ⟨e, y⟩ := y
    subst e
    exact hs i x σ _ (y xs q) p
  · have e : i = xs.length := by omega
    subst e
    exact .inl ⟨⟨xs, q, Nat.le_refl _⟩, hd σ H p⟩
theorem for_range {lo : Int} {n : Nat} {g : TG} {tb : TS} {D : Ends} {σ : St} {H : Hp} (Pv : Nat → St → Hp → Prop) (h0 : Pv 0 σ H)
    (hs : ∀ i σ H, i < n → Pv i σ H → g (.int (lo + i)) σ H fun σ2 H2 => tb { D with nx := Pv (i + 1), ct := Pv (i + 1), bk := D.nx } σ2 H2) (hd : ∀ σ H, Pv n σ H → D.nx σ H) :
    ∃ W : Nat → Nat → St → Hp → Prop, (∃ m, W 0 m σ H) ∧ ∀ i m σ H, W i m σ H →
      ((Itr lo n).stop i H ∧ D.nx σ H) ∨ ((Itr lo n).go i H ∧ ∃ N : St → Hp → Prop, (∀ σ' H', N σ' H' → ∃ m', m' < m ∧ W (i + 1) m' σ' H') ∧ ∀ x H', (Itr lo n).yld i H x H' → g x σ H' fun σ2 H2 => tb { D with nx := N, ct := N, bk := D.nx } σ2 H2) := by
  refine ⟨fun i m σ H => m = n - i ∧ i ≤ n ∧ Pv i σ H, ⟨n, by simp, Nat.zero_le _, h0⟩, ?_⟩
  rintro i m σ H ⟨rfl, hi, p⟩
  by_cases hlt : i < n
  · refine .inr ⟨hlt, Pv (i + 1), fun σ' H' p' => ⟨n - (i + 1), by omega, rfl, hlt, p'⟩, fun x H' y => ?_⟩
    obtain ⟨e, y⟩ := y
    subst e y
    exact hs i σ _ hlt p
  · have e : i = n := by omega
    subst e
    exact .inl ⟨Nat.le_refl _, hd σ H p⟩
/-- while, by a word and a measure of the state -/
theorem while_by {c : TT} {tb : TS} {D : Ends} {σ : St} {H : Hp} (Pv : St → Hp → Prop) (μ : St → Hp → Nat) (h0 : Pv σ H)
    (hs : ∀ σ H, Pv σ H → c σ H fun b H1 => if b = true then tb { D with nx := fun σ' H' => Pv σ' H' ∧ μ σ' H' < μ σ H, ct := fun σ' H' => Pv σ' H' ∧ μ σ' H' < μ σ H, bk := D.nx } σ H1 else D.nx σ H1)
    (mono : ∀ σ H Q Q', (∀ b H1, Q b H1 → Q' b H1) → c σ H Q → c σ H Q') : tWhile c tb D σ H := by
  refine ⟨fun m σ H => m = μ σ H ∧ Pv σ H, ⟨_, rfl, h0⟩, ?_⟩
  rintro m σ H ⟨rfl, p⟩
  refine mono σ H _ _ (fun b H1 q => ?_) (hs σ H p)
  cases b with
  | true => exact ⟨_, fun σ' H' ⟨p', l⟩ => ⟨_, l, rfl, p'⟩, q⟩
  | false => exact q
end L2

namespace L2
open PySem PySem.Spec PyProof.Rows

abbrev R2 := V → V → Hp → VK → Prop
/-- a two-place operation on values: f is binaryOp op, inplaceOp op or compareOp op -/
def OpR (X : Cx) (f : Value → Value → Sem Value) (r : R2) : Prop :=
  ∀ (pins : List (Addr × Obj)) (s : Shared) (σ : St) (H : Hp) (x y : V) (v u : Value) (Q : VK), Inv X pins σ H s → RelV x v → RelV y u → r x y H Q →
    wpAny (model X.prog X.w) X.A (f v u) (EP X pins σ Q) X.xe s
/-- a one-place operation -/
def UnR (X : Cx) (f : Value → Sem Value) (r : V → Hp → VK → Prop) : Prop :=
  ∀ (pins : List (Addr × Obj)) (s : Shared) (σ : St) (H : Hp) (x : V) (v : Value) (Q : VK), Inv X pins σ H s → RelV x v → r x H Q →
    wpAny (model X.prog X.w) X.A (f v) (EP X pins σ Q) X.xe s
/-- a call of a value that is known (a builtin, a type) with values -/
def CallR (X : Cx) (f : Value) (r : List V → Hp → VK → Prop) : Prop :=
  ∀ (pins : List (Addr × Obj)) (s : Shared) (σ : St) (H : Hp) (xs : List V) (us : List Value) (Q : VK), Inv X pins σ H s → Vals xs us → r xs H Q →
    wpAny (model X.prog X.w) X.A (call f us) (EP X pins σ Q) X.xe s
/-- a value's truth -/
def TruR (X : Cx) (r : V → Hp → (Bool → Hp → Prop) → Prop) : Prop :=
  ∀ (pins : List (Addr × Obj)) (s : Shared) (σ : St) (H : Hp) (x : V) (v : Value) (Q : Bool → Hp → Prop), Inv X pins σ H s → RelV x v → r x H Q →
    wpAny (model X.prog X.w) X.A (truthy v) (TP X pins σ Q) X.xe s

def tOp (r : R2) (ta tb : TE) : TE := fun σ H Q => ta σ H fun x H1 => tb σ H1 fun y H2 => r x y H2 Q
def tUn (r : V → Hp → VK → Prop) (ta : TE) : TE := fun σ H Q => ta σ H fun x H1 => r x H1 Q
/-- ints in, under C, and a value out -/
def rI (C : Int → Int → Prop) (g : Int → Int → V) : R2 := fun x y H Q => ∃ i j, x = .int i ∧ y = .int j ∧ C i j ∧ Q (g i j) H
def rI0 (g : Int → Int → V) : R2 := fun x y H Q => ∃ i j, x = .int i ∧ y = .int j ∧ Q (g i j) H
def rU (g : Int → V) : V → Hp → VK → Prop := fun x H Q => ∃ i, x = .int i ∧ Q (g i) H

section
variable {X : Cx} {a b c : Expr} {ta tb tc : TE} {pos : Pos}

theorem binT (ha : PE X a ta) (hb : PE X b tb) {pins : List (Addr × Obj)} {s : Shared} {σ : St} {H : Hp} {R : V → V → Hp → Prop} (I : Inv X pins σ H s)
    (h : ta σ H fun x H1 => tb σ H1 fun y H2 => R x y H2) {Q : Value → Shared → Prop} {f : Value → Value → Sem Value}
    (hf : ∀ v u s2 x y H2, Inv X pins σ H2 s2 → RelV x v → RelV y u → R x y H2 → wpAny (model X.prog X.w) X.A (f v u) Q X.xe s2) :
    wpAny (model X.prog X.w) X.A (eval a X.env) (fun v s₁ => wpAny (model X.prog X.w) X.A (eval b X.env) (fun u s₂ => wpAny (model X.prog X.w) X.A (f v u) Q X.xe s₂) X.xe s₁) X.xe s := by
  refine thn (ha pins s σ H _ I h) fun v s1 ⟨x, H1, I1, r1, q1⟩ => ?_
  refine thn (hb pins s1 σ H1 _ I1 q1) fun u s2 ⟨y, H2, I2, r2, q2⟩ => ?_
  exact hf v u s2 x y H2 I2 r1 r2 q2

theorem pe_op {op : Operator} {r : R2} (ho : OpR X (binaryOp op) r) (ha : PE X a ta) (hb : PE X b tb) : PE X (.BinOp a op b pos) (tOp r ta tb) := by
  intro pins s σ H Q I h
  exact wpAny_BinOp (binT ha hb I h fun v u s2 x y H2 I2 rx ry q => ho pins s2 σ H2 x y v u Q I2 rx ry q)
theorem pe_un {op : UnaryOp} {r : V → Hp → VK → Prop} (ho : UnR X (unaryOp op) r) (ha : PE X a ta) : PE X (.UnaryOp op a pos) (tUn r ta) := by
  intro pins s σ H Q I h
  exact UnaryOp_ (thn (ha pins s σ H _ I h) fun v s1 ⟨x, H1, I1, r1, q1⟩ => ho pins s1 σ H1 x v Q I1 r1 q1)
theorem opI {f : Value → Value → Sem Value} {C : Int → Int → Prop} {g : Int → Int → Int}
    (rule : ∀ (i j : Int) (t u : Tok) (s : Shared) (Q : Value → Shared → Prop) (E : Value → Shared → Prop), C i j → Q (.int (g i j) s.toks) { s with toks := s.toks + 1 } → wpAny (model X.prog X.w) X.A (f (.int i t) (.int j u)) Q E s) :
    OpR X f (rI C fun i j => .int (g i j)) := by
  intro pins s σ H x y v u Q I rx ry h
  obtain ⟨i, j, rfl, rfl, hc, q⟩ := h
  obtain ⟨t, rfl⟩ := rx
  obtain ⟨t', rfl⟩ := ry
  exact rule i j t t' s _ _ hc ⟨.int (g i j), H, I.tok _, ⟨_, rfl⟩, q⟩
theorem opI0 {f : Value → Value → Sem Value} {g : Int → Int → Int}
    (rule : ∀ (i j : Int) (t u : Tok) (s : Shared) (Q : Value → Shared → Prop) (E : Value → Shared → Prop), Q (.int (g i j) s.toks) { s with toks := s.toks + 1 } → wpAny (model X.prog X.w) X.A (f (.int i t) (.int j u)) Q E s) :
    OpR X f (rI0 fun i j => .int (g i j)) := by
  intro pins s σ H x y v u Q I rx ry h
  obtain ⟨i, j, rfl, rfl, q⟩ := h
  obtain ⟨t, rfl⟩ := rx
  obtain ⟨t', rfl⟩ := ry
  exact rule i j t t' s _ _ ⟨.int (g i j), H, I.tok _, ⟨_, rfl⟩, q⟩
theorem opB0 {f : Value → Value → Sem Value} {g : Int → Int → Bool}
    (rule : ∀ (i j : Int) (t u : Tok) (s : Shared) (Q : Value → Shared → Prop) (E : Value → Shared → Prop), Q (.bool (g i j)) s → wpAny (model X.prog X.w) X.A (f (.int i t) (.int j u)) Q E s) :
    OpR X f (rI0 fun i j => .bl (g i j)) := by
  intro pins s σ H x y v u Q I rx ry h
  obtain ⟨i, j, rfl, rfl, q⟩ := h
  obtain ⟨t, rfl⟩ := rx
  obtain ⟨t', rfl⟩ := ry
  exact rule i j t t' s _ _ ⟨.bl (g i j), H, I, rfl, q⟩

def CDiv (i j : Int) : Prop := 0 < j ∧ j < 1073741824
def CDivN (i j : Int) : Prop := j ≠ 0 ∧ j.natAbs < 1073741824
def CPow (i j : Int) : Prop := 0 ≤ j ∧ j ≤ 1000000 ∧ i.natAbs < 2 ^ 64
def CMul (i j : Int) : Prop := (-(2 ^ 64) < i ∧ i < 2 ^ 64) ∨ (-(2 ^ 64) < j ∧ j < 2 ^ 64)
theorem CMul.ok {i j : Int} (h : CMul i j) : IntMulOk i j := by
  rcases h with ⟨h1, h2⟩ | ⟨h1, h2⟩
  · exact .of_left (intBits_le_64 h1 h2)
  · exact .of_right (intBits_le_64 h1 h2)
theorem op_add : OpR X (binaryOp .Add) (rI0 fun i j => .int (i + j)) := opI0 fun _ _ _ _ _ _ _ q => add_int q
theorem op_sub : OpR X (binaryOp .Sub) (rI0 fun i j => .int (i - j)) := opI0 fun _ _ _ _ _ _ _ q => sub_int q
/-- // by a positive divisor -/
theorem op_fdiv : OpR X (binaryOp .FloorDiv) (rI CDiv fun i j => .int (i / j)) := opI fun i j _ _ _ _ _ hc q => by
  have h1 : (0 : Int) < j := hc.1
  have h2 : j < 1073741824 := hc.2
  exact floordiv_int (by omega) (by rw [Int.fdiv_eq_ediv_of_nonneg i (by omega)]; exact q) (.inl (PyProof.noPylong_small (by omega)))
/-- % by a positive divisor of any size -/
theorem op_mod : OpR X (binaryOp .Mod) (rI (fun _ j => 0 < j) fun i j => .int (i % j)) := opI fun i j _ _ _ _ _ hc q => by
  have h1 : (0 : Int) < j := hc
  exact mod_int' (by omega) (by rw [Int.fmod_eq_emod_of_nonneg i (by omega)]; exact q)
theorem op_pow : OpR X (binaryOp .Pow) (rI CPow fun i j => .int (i ^ j.toNat)) := opI fun _ _ _ _ _ _ _ hc q => pow_int_small hc.1 hc.2.1 hc.2.2 q
theorem unI {f : Value → Sem Value} {g : Int → Int}
    (rule : ∀ (i : Int) (t : Tok) (s : Shared) (Q : Value → Shared → Prop) (E : Value → Shared → Prop), Q (.int (g i) s.toks) { s with toks := s.toks + 1 } → wpAny (model X.prog X.w) X.A (f (.int i t)) Q E s) :
    UnR X f (rU fun i => .int (g i)) := by
  intro pins s σ H x v Q I rx h
  obtain ⟨i, rfl, q⟩ := h
  obtain ⟨t, rfl⟩ := rx
  exact rule i t s _ _ ⟨.int (g i), H, I.tok _, ⟨_, rfl⟩, q⟩
theorem un_neg : UnR X (unaryOp .USub) (rU fun i => .int (-i)) := unI fun _ _ _ _ _ q => neg_int q
end

/-- the scalars that == tells apart as data does -/
def scal : V → V → Bool
  | .non, .non => true | .non, .int _ => true | .int _, .non => true | .non, .bl _ => true | .bl _, .non => true | .non, .str _ => true | .str _, .non => true
  | .int _, .int _ => true | .bl _, .bl _ => true | .str _, .str _ => true | .byt _, .byt _ => true
  | .int _, .str _ => true | .str _, .int _ => true | .bl _, .str _ => true | .str _, .bl _ => true
  | _, _ => false
def rEq : R2 := fun x y H Q => scal x y = true ∧ Q (.bl (decide (x = y))) H
def rNe : R2 := fun x y H Q => scal x y = true ∧ Q (.bl (!decide (x = y))) H

theorem dec_int {i j : Int} : decide (V.int i = V.int j) = (i == j) := by
  rw [Bool.eq_iff_iff]
  simp
theorem dec_bl {i j : Bool} : decide (V.bl i = V.bl j) = (i == j) := by
  rw [Bool.eq_iff_iff]
  simp
theorem dec_str {i j : Str} : decide (V.str i = V.str j) = (i == j) := by
  rw [Bool.eq_iff_iff]
  simp
theorem dec_byt {i j : Array UInt8} : decide (V.byt i = V.byt j) = (i.toList == j.toList) := by
  rw [Bool.eq_iff_iff]
  cases i
  cases j
  simp

section
variable {X : Cx} {a b c : Expr} {ta tb tc : TE} {pos : Pos}
theorem fin_bl {pins : List (Addr × Obj)} {σ : St} {H : Hp} {s : Shared} {Q : VK} {k k' : Bool} (I : Inv X pins σ H s) (q : Q (.bl k) H) (e : k = k') : EP X pins σ Q (.bool k') s := by
  subst e
  exact ⟨.bl k, H, I, rfl, q⟩
theorem op_eq : OpR X (compareOp .Eq) rEq := by
  intro pins s σ H x y v u Q I rx ry h
  obtain ⟨hs, q⟩ := h
  cases x with
  | non =>
    cases rx
    cases y with
    | non => cases ry; exact PySem.EqNone.eq_none_none (fin_bl I q (by simp))
    | bl j => cases ry; exact PySem.EqNone.eq_none_bool (fin_bl I q (by simp))
    | int j => obtain ⟨t', rfl⟩ := ry; exact PySem.EqNone.eq_none_int (fin_bl I q (by simp))
    | str j => obtain ⟨t', rfl⟩ := ry; exact PySem.EqNone.eq_none_str (fin_bl I q (by simp))
    | _ => exact absurd (show false = true from hs) Bool.false_ne_true
  | bl i =>
    cases rx
    cases y with
    | non => cases ry; exact PySem.EqNone.eq_bool_none (fin_bl I q (by simp))
    | bl j => cases ry; exact eq_bool (fin_bl I q dec_bl)
    | str j => obtain ⟨t', rfl⟩ := ry; exact PySem.EqMixed.eq_bool_str (fin_bl I q (by simp))
    | _ => exact absurd (show false = true from hs) Bool.false_ne_true
  | int i =>
    obtain ⟨t, rfl⟩ := rx
    cases y with
    | non => cases ry; exact PySem.EqNone.eq_int_none (fin_bl I q (by simp))
    | int j => obtain ⟨t', rfl⟩ := ry; exact eq_int (fin_bl I q dec_int)
    | str j => obtain ⟨t', rfl⟩ := ry; exact PySem.EqMixed.eq_int_str (fin_bl I q (by simp))
    | _ => exact absurd (show false = true from hs) Bool.false_ne_true
  | str i =>
    obtain ⟨t, rfl⟩ := rx
    cases y with
    | non => cases ry; exact PySem.EqNone.eq_str_none (fin_bl I q (by simp))
    | bl j => cases ry; exact PySem.EqMixed.eq_str_bool (fin_bl I q (by simp))
    | int j => obtain ⟨t', rfl⟩ := ry; exact PySem.EqMixed.eq_str_int (fin_bl I q (by simp))
    | str j => obtain ⟨t', rfl⟩ := ry; exact eq_str (fin_bl I q dec_str)
    | _ => exact absurd (show false = true from hs) Bool.false_ne_true
  | byt i =>
    obtain ⟨t, rfl⟩ := rx
    cases y with
    | byt j => obtain ⟨t', rfl⟩ := ry; exact PySem.W.eq_bytes (fin_bl I q dec_byt)
    | _ => exact absurd (show false = true from hs) Bool.false_ne_true
  | _ => cases y <;> exact absurd (show false = true from hs) Bool.false_ne_true
theorem op_ne : OpR X (compareOp .NotEq) rNe := by
  intro pins s σ H x y v u Q I rx ry h
  obtain ⟨hs, q⟩ := h
  cases x with
  | non =>
    cases rx
    cases y with
    | non => cases ry; exact PySem.EqNone.ne_none_none (fin_bl I q (by simp))
    | bl j => cases ry; exact PySem.EqNone.ne_none_bool (fin_bl I q (by simp))
    | int j => obtain ⟨t', rfl⟩ := ry; exact PySem.EqNone.ne_none_int (fin_bl I q (by simp))
    | str j => obtain ⟨t', rfl⟩ := ry; exact PySem.EqNone.ne_none_str (fin_bl I q (by simp))
    | _ => exact absurd (show false = true from hs) Bool.false_ne_true
  | bl i =>
    cases rx
    cases y with
    | non => cases ry; exact PySem.EqNone.ne_bool_none (fin_bl I q (by simp))
    | bl j => cases ry; exact ne_bool (fin_bl I q (congrArg not dec_bl))
    | str j => obtain ⟨t', rfl⟩ := ry; exact PySem.EqMixed.ne_bool_str (fin_bl I q (by simp))
    | _ => exact absurd (show false = true from hs) Bool.false_ne_true
  | int i =>
    obtain ⟨t, rfl⟩ := rx
    cases y with
    | non => cases ry; exact PySem.EqNone.ne_int_none (fin_bl I q (by simp))
    | int j => obtain ⟨t', rfl⟩ := ry; exact ne_int (fin_bl I q (congrArg not dec_int))
    | str j => obtain ⟨t', rfl⟩ := ry; exact PySem.EqMixed.ne_int_str (fin_bl I q (by simp))
    | _ => exact absurd (show false = true from hs) Bool.false_ne_true
  | str i =>
    obtain ⟨t, rfl⟩ := rx
    cases y with
    | non => cases ry; exact PySem.EqNone.ne_str_none (fin_bl I q (by simp))
    | bl j => cases ry; exact PySem.EqMixed.ne_str_bool (fin_bl I q (by simp))
    | int j => obtain ⟨t', rfl⟩ := ry; exact PySem.EqMixed.ne_str_int (fin_bl I q (by simp))
    | str j => obtain ⟨t', rfl⟩ := ry; exact ne_str (fin_bl I q (congrArg not dec_str))
    | _ => exact absurd (show false = true from hs) Bool.false_ne_true
  | byt i =>
    obtain ⟨t, rfl⟩ := rx
    cases y with
    | byt j => obtain ⟨t', rfl⟩ := ry; exact PySem.W.ne_bytes (fin_bl I q (congrArg not dec_byt))
    | _ => exact absurd (show false = true from hs) Bool.false_ne_true
  | _ => cases y <;> exact absurd (show false = true from hs) Bool.false_ne_true

theorem op_lt : OpR X (compareOp .Lt) (rI0 fun i j => .bl (decide (i < j))) := opB0 fun _ _ _ _ _ _ _ q => lt_int q
theorem op_le : OpR X (compareOp .LtE) (rI0 fun i j => .bl (decide (i ≤ j))) := opB0 fun _ _ _ _ _ _ _ q => le_int q
theorem op_gt : OpR X (compareOp .Gt) (rI0 fun i j => .bl (decide (j < i))) := opB0 fun _ _ _ _ _ _ _ q => gt_int q
/-- is None, is not None: the right side a value none -/
theorem op_isN : OpR X (compareOp .Is) (fun x y H Q => y = .non ∧ Q (.bl (decide (x = .non))) H) := by
  intro pins s σ H x y v u Q I rx ry h
  obtain ⟨rfl, q⟩ := h
  cases ry
  refine is_none_gen (fin_bl I q ?_)
  cases x <;> first
    | (cases rx; rfl)
    | (obtain ⟨t, rfl⟩ := rx; rfl)
theorem op_notN : OpR X (compareOp .IsNot) (fun x y H Q => y = .non ∧ Q (.bl (!decide (x = .non))) H) := by
  intro pins s σ H x y v u Q I rx ry h
  obtain ⟨rfl, q⟩ := h
  cases ry
  refine isnot_none_gen (fin_bl I q ?_)
  cases x <;> first
    | (cases rx; rfl)
    | (obtain ⟨t, rfl⟩ := rx; rfl)

/-- is, is not of two objects that are tracked lists or instances -/
def isObj : HO → Bool
  | .lst _ => true
  | .ins _ _ _ => true
  | _ => false
/-- two rules for one operation: by cases -/
theorem OpR.or {f : Value → Value → Sem Value} {r r' : R2} (h : OpR X f r) (h' : OpR X f r') : OpR X f (fun x y H Q => r x y H Q ∨ r' x y H Q) := by
  intro pins s σ H x y v u Q I rx ry q
  rcases q with q | q
  · exact h pins s σ H x y v u Q I rx ry q
  · exact h' pins s σ H x y v u Q I rx ry q

theorem nomark (b : Expr) {op : CmpOp} (h : op ≠ .In := by decide) (h2 : op ≠ .NotIn := by decide) : behindInMarks op b = false := by
  have e1 : (op == CmpOp.In) = false := by cases op <;> first | rfl | exact absurd rfl h
  have e2 : (op == CmpOp.NotIn) = false := by cases op <;> first | rfl | exact absurd rfl h2
  cases b <;> simp [behindInMarks, e1, e2]
/-- a comparison as a value; hm: nomark b, or (for in, not in) by with_unfolding_all rfl -/
theorem pe_cmpR {op : CmpOp} {r : R2} (ho : OpR X (compareOp op) r) (ha : PE X a ta) (hb : PE X b tb) (hm : behindInMarks op b = false) : PE X (.Compare a [op] [b] pos) (tOp r ta tb) := by
  intro pins s σ H Q I h
  exact wpAny_Compare1 (binT ha hb I h fun v u s2 x y H2 I2 rx ry q => ho pins s2 σ H2 x y v u Q I2 rx ry q) hm
/-- a reading of a value as a test -/
def tTest (t : TE) : TT := fun σ H Q => t σ H fun x H' => ∃ k, x = .bl k ∧ Q k H'
theorem pt_cmpR {op : CmpOp} {r : R2} (ho : OpR X (compareOp op) r) (ha : PE X a ta) (hb : PE X b tb) (hm : behindInMarks op b = false) : PT X (.Compare a [op] [b] pos) (tTest (tOp r ta tb)) := by
  intro pins s σ H Q I h
  refine wpAny_isTrue_Compare1 (thn (ha pins s σ H _ I h) fun v s1 ⟨x, H1, I1, r1, q1⟩ => thn (hb pins s1 σ H1 _ I1 q1) fun u s2 ⟨y, H2, I2, r2, q2⟩ =>
    thn (ho pins s2 σ H2 x y v u _ I2 r1 r2 q2) fun c s3 ⟨z, H3, I3, r3, k, e, q3⟩ => ?_) hm
  subst e
  cases r3
  exact wpAny_truthy_bool ⟨H3, I3, q3⟩
/-- a op1 b op2 c -/
def tChain (r r' : R2) (ta tb tc : TE) : TE := fun σ H Q => ta σ H fun x H1 => tb σ H1 fun y H2 => r x y H2 fun z H3 => ∃ k, z = .bl k ∧
  (if k = true then tc σ H3 fun w' H4 => r' y w' H4 Q else Q (.bl false) H3)
/-- a value's truth by the abstract heap -/
def TruV (K : PySem.W.Frag) (x : V) (H : Hp) (k : Bool) : Prop :=
  match x with
  | .non => k = false
  | .bl b => k = b
  | .int i => k = (i != 0)
  | .str y => y.length ≤ sizeLine ∧ k = ((y.length : Int) != 0)
  | .byt y => y.size ≤ sizeLine ∧ k = ((y.size : Int) != 0)
  | .ref p => (∃ xs, SqL K H p xs ∧ k = !xs.isEmpty) ∨ (∃ xs, SqT K H p xs ∧ k = !xs.isEmpty) ∨ ∃ kvs, H p = some (.dK kvs) ∧ k = !kvs.isEmpty
  | _ => False
theorem line63 : (sizeLine : Nat) < 2 ^ 63 := by rw [sizeLine_eq]; decide
theorem op_add_str : OpR X (binaryOp .Add) (fun x y H Q => ∃ i j, x = .str i ∧ y = .str j ∧ i.length + j.length ≤ sizeLine ∧ Q (.str (i ++ j)) H) := by
  intro pins s σ H x y v u Q I rx ry h
  obtain ⟨i, j, rfl, rfl, hz, q⟩ := h
  obtain ⟨t, rfl⟩ := rx
  obtain ⟨t', rfl⟩ := ry
  exact add_str (fun t' tk => ⟨.str (i ++ j), H, I.tok _, ⟨_, rfl⟩, q⟩) hz
def PlainIxT (b : Expr) : Prop := ∀ o i, subscripted b false o i = operate [o, i] (getItem o i)
theorem vals1 {x : V} {us : List Value} (r : Vals [x] us) : ∃ u, us = [u] ∧ RelV x u := by
  cases r with
  | cons r1 r2 => cases r2; exact ⟨_, rfl, r1⟩
theorem vals2 {x y : V} {us : List Value} (r : Vals [x, y] us) : ∃ u w', us = [u, w'] ∧ RelV x u ∧ RelV y w' := by
  cases r with
  | cons r1 r2 =>
    cases r2 with
    | cons r3 r4 => cases r4; exact ⟨_, _, rfl, r1, r3⟩
theorem call_max2 (hc : X.calm = true) : CallR X (.builtin "max") (fun xs H Q => ∃ i j, xs = [.int i, .int j] ∧ Q (.int (if j > i then j else i)) H) := by
  intro pins s σ H xs us Q I r h
  obtain ⟨i, j, rfl, q⟩ := h
  obtain ⟨u, w', rfl, ⟨t, rfl⟩, ⟨t', rfl⟩⟩ := vals2 r
  refine max_two_ints (I.ok.hd hc) fun h' tk k => ⟨_, H, I.kept k, ?_, q⟩
  by_cases hj : j > i
  · rw [if_pos hj, if_pos hj]; exact ⟨_, rfl⟩
  · rw [if_neg hj, if_neg hj]; exact ⟨_, rfl⟩
/-- len of a str, a bytes, a list, a tuple -/
def LenV (K : PySem.W.Frag) (x : V) (H : Hp) (n : Nat) : Prop :=
  match x with
  | .str y => y.length ≤ sizeLine ∧ n = y.length
  | .byt y => y.size ≤ sizeLine ∧ n = y.size
  | .ref p => (∃ xs, SqL K H p xs ∧ n = xs.length) ∨ ∃ xs, SqT K H p xs ∧ n = xs.length
  | _ => False
end
end L2

namespace L2
open PySem PySem.Spec PyProof.Rows

structure ObjM (h : Heap) (x dx C : Addr) (mA : Str → Option Value) : Prop where
  obj : h.get? x = some (PySem.W.instObj C dx)
  ns : h.Ns1 dx mA
  ne : dx ≠ x

theorem lookIn_ns {h : Heap} {dx : Addr} {mA : Str → Option Value} (n : h.Ns1 dx mA) : ∃ od, h.get? dx = some od ∧ ∀ name, PySem.W.lookIn name od = some (mA name) := by
  obtain ⟨o, es, ep, ho, hd, hk, _, hm⟩ := n
  refine ⟨o, ho, fun name => ?_⟩
  have e := hm name
  unfold nsFind findBy at e
  rw [← Array.find?_toList] at e
  unfold PySem.W.lookIn
  rw [hd]
  dsimp only
  split
  · rename_i y q
    rw [q] at e
    exact congrArg some e
  · rename_i q
    rw [q] at e
    have a : es.toList.any (·.refKey) = false := by
      rw [List.any_eq_false]
      intro y hy
      obtain ⟨z, t, hkey⟩ := hk y (Array.mem_toList_iff.mp hy)
      simp [DictEntry.refKey, hkey]
    have a' : ¬ es.toList.any (·.refKey) = true := by rw [a]; exact Bool.false_ne_true
    rw [if_neg a']
    exact congrArg some e

theorem ObjM.look {h : Heap} {x dx C : Addr} {mA : Str → Option Value} (I : ObjM h x dx C mA) : ∃ od, PySem.W.InstAt h x (PySem.W.instObj C dx) C (some od) ∧ ∀ name, PySem.W.lookIn name od = some (mA name) :=
  let ⟨od, ho, hl⟩ := lookIn_ns I.ns
  ⟨od, ⟨I.obj, rfl, rfl, ho⟩, hl⟩

section
variable {prog : Program} {w : World} {A : Around} {E : Value → Shared → Prop} {s : Shared} {K : PySem.W.Frag} {x dx C f : Addr} {mA : Str → Option Value} {name : Str} {v : Value}

theorem get_map {expr : Bool} {Q : Value → Shared → Prop} (X : K.In s.heap) (I : ObjM s.heap x dx C mA) (hg : PySem.W.plainGet K C name = true) (hh : PySem.W.hasDictIn K C = true)
    (ha : PySem.W.findIn K (.ref C) name = some none) (hv : mA name = some v) (hv' : PySem.W.handedIn v = true) (h : Q v { s with toks := s.toks + 1 }) :
    wpAny (model prog w) A (getAttr (.ref x) name expr) Q E s := by
  obtain ⟨od, J, hl⟩ := I.look
  exact PySem.W.get_value X J (PySem.W.plainGet_of hg).1 (PySem.W.findObj_own hh ha rfl (by rw [hl, hv])) hv' h

theorem get_meth {pl : Sem Bool} {Q : Value × List Value → Shared → Prop} (X : K.In s.heap) (I : ObjM s.heap x dx C mA) (hg : PySem.W.plainGet K C name = true)
    (hf : PySem.W.findIn K (.ref C) name = some (some (.ref f))) (ht : PySem.W.isFn K (.ref f) = true) (hv : mA name = none) (h : Q (.ref f, [.ref x]) s) :
    wpAny (model prog w) A (getMethod (.ref x) name pl) Q E s := by
  obtain ⟨od, J, hl⟩ := I.look
  exact PySem.W.method_fn X J (PySem.W.plainGet_of hg).1 (PySem.W.plainGet_of hg).2 hf (beq_iff_eq.mp ht) (by show (PySem.W.lookIn name od).map (·.isSome) = some false; rw [hl, hv]; rfl) h

theorem set_map {ns : List Str} {Q : Unit → Shared → Prop} (X : K.In s.heap) (I : ObjM s.heap x dx C mA)
    (hs : PySem.W.findIn K (.ref C) "__setattr__" = some (some (.builtin "object.__setattr__"))) (hp : PySem.W.plainOver K C = true) (ht : PySem.W.takerIn K C name = some none) (hh : PySem.W.hasDictIn K C = true)
    (hw : PySem.Within mA ns) (hsz : ns.length ≤ sizeLine)
    (h : ∀ h', ObjM h' x dx C (fun y => if y = name then some v else mA y) → Heap.SameBut dx s.heap h' → Q () { s with heap := h', toks := s.toks + 2 }) :
    wpAny (model prog w) A (setAttr (.ref x) name v) Q E s := by
  obtain ⟨od, J, hl⟩ := I.look
  refine PySem.W.set_plain X J hs (PySem.W.osa_open (s := { s with toks := s.toks + 1 }) (r := none) X J hp ht fun b => ?_)
  obtain ⟨cd, hc, hd'⟩ := PySem.W.any_some hh
  have hx : s.heap.get? x = some ⟨.ref C, some dx, .plain, #[]⟩ := I.obj
  refine wpAny_bind (wpAny_pure (wpAny_bind (wpAny_bind (wpAny_loadPart hx (wpAny_bind (PySem.W.Looks.here (s := { s with toks := s.toks + 1 }) (PySem.W.looks_clsIn X hc) ?_))))))
  rw [hd']
  refine wpAny_pure (a := some dx) (wpAny_bind (wpAny_pure (wpAny_bind ?_)))
  refine wpAny_nsSet1 (s := { s with toks := s.toks + 1 }) I.ns fun h' hn2 hs2 => ?_
  obtain ⟨oD, esD, epD, hoD, hdD, hcD⟩ := hn2.count (PySem.Within.cons name v hw)
  refine wpAny_bind (wpAny_lookBehind hoD (by rw [hdD]; exact pastItsLine_dict (Nat.le_trans hcD (by rw [List.length_cons]; omega))) ?_)
  exact wpAny_pure (h _ ⟨(hs2.2 _ (Ne.symm I.ne)).trans I.obj, hn2, I.ne⟩ hs2)

/-- C(..): the dict at the heap's end, the instance behind it; then its __init__ -/
theorem make_map {R : Result → Shared → Prop} {vs : List Value} {kw : List (Str × Value)} (X : K.In s.heap) (hm : PySem.W.makesIn K C = true)
    (hi : PySem.W.findIn K (.ref C) "__init__" = some (some (.ref f))) (hf : PySem.W.typeIn K (.ref f) = some (.type "function"))
    (h : codeAny (model prog w) (A.under (.builtin "type.__call__" ⟨.ref C :: vs, kw⟩)) (.call (.ref f) ⟨.ref (s.heap.objs.size + 1) :: vs, kw⟩) (PySem.W.InitBack (s.heap.objs.size + 1) R)
      { s with heap := (s.heap.push PySem.W.emptyDict).push (PySem.W.instObj C s.heap.objs.size) }) :
    codeAny (model prog w) A (.call (.ref C) ⟨vs, kw⟩) R s := by
  obtain ⟨hh, g, d, t, os⟩ := s
  exact PySem.W.make_core (PySem.W.makes_of X hm) (PySem.W.looks_findIn X hi) (fun self => PySem.W.bind_fn X self hf) (.inl rfl) h
end

def putF (f : Str) (v : V) : List (Str × V) → List (Str × V)
  | [] => [(f, v)]
  | (g, x) :: r => if g = f then (g, v) :: r else (g, x) :: putF f v r
theorem lookup_putF (f g : Str) (v : V) : ∀ fs : List (Str × V), (putF f v fs).lookup g = if g = f then some v else fs.lookup g
  | [] => by
    show List.lookup g [(f, v)] = _
    by_cases h : g = f
    · have hb : (g == f) = true := beq_iff_eq.mpr h
      simp only [List.lookup, hb, if_pos h]
    · have hb : (g == f) = false := beq_eq_false_iff_ne.mpr h
      simp only [List.lookup, hb, if_neg h]
  | (k, x) :: r => by
    have ih := lookup_putF f g v r
    rw [show putF f v ((k, x) :: r) = (if k = f then (k, v) :: r else (k, x) :: putF f v r) from rfl]
    by_cases hk : k = f
    · rw [if_pos hk]
      by_cases h : g = k
      · have hb : (g == k) = true := beq_iff_eq.mpr h
        simp only [List.lookup, hb, if_pos (h.trans hk)]
      · have hb : (g == k) = false := beq_eq_false_iff_ne.mpr h
        simp only [List.lookup, hb, if_neg (fun e : g = f => h (e.trans hk.symm))]
    · rw [if_neg hk]
      by_cases h : g = k
      · have hb : (g == k) = true := beq_iff_eq.mpr h
        simp only [List.lookup, hb, if_neg (fun e : g = f => hk (h.symm.trans e))]
      · have hb : (g == k) = false := beq_eq_false_iff_ne.mpr h
        simp only [List.lookup, hb]
        exact ih
theorem keys_putF (f : Str) (v : V) : ∀ fs : List (Str × V), f ∈ (putF f v fs).map (·.1) ∧ ∀ g, g ∈ fs.map (·.1) → g ∈ (putF f v fs).map (·.1)
  | [] => ⟨by simp [putF], fun g h => by simp at h⟩
  | (k, x) :: r => by
    obtain ⟨i1, i2⟩ := keys_putF f v r
    rw [show putF f v ((k, x) :: r) = (if k = f then (k, v) :: r else (k, x) :: putF f v r) from rfl]
    by_cases hk : k = f
    · rw [if_pos hk]
      subst hk
      exact ⟨by simp, fun g h => by simpa using h⟩
    · rw [if_neg hk]
      refine ⟨?_, fun g h => ?_⟩
      · rw [List.map_cons]
        exact List.mem_cons_of_mem _ i1
      · rw [List.map_cons] at h ⊢
        rcases List.mem_cons.mp h with e | e
        · exact List.mem_cons.mpr (.inl e)
        · exact List.mem_cons_of_mem _ (i2 g e)
theorem length_putF (f : Str) (v : V) : ∀ fs : List (Str × V), (putF f v fs).length ≤ fs.length + 1
  | [] => by simp [putF]
  | (k, x) :: r => by
    have ih := length_putF f v r
    rw [show putF f v ((k, x) :: r) = (if k = f then (k, v) :: r else (k, x) :: putF f v r) from rfl]
    by_cases hk : k = f
    · rw [if_pos hk, List.length_cons, List.length_cons]; omega
    · rw [if_neg hk, List.length_cons, List.length_cons]; omega

theorem RelO.some_of {v : V} {o : Option Value} (r : RelO (some v) o) : ∃ u, o = some u ∧ RelV v u := by
  cases o with
  | none => exact (show False from r).elim
  | some u => exact ⟨u, rfl, r⟩
theorem RelO.none_of {o : Option Value} (r : RelO none o) : o = none := by
  cases o with
  | none => rfl
  | some u => exact (show False from r).elim
theorem handed_of {v : V} {u : Value} (r : RelV v u) : PySem.W.handedIn u = true := by
  cases v with
  | non => cases (show u = Value.none from r); rfl
  | bl b => cases (show u = Value.bool b from r); rfl
  | int i => obtain ⟨t, e⟩ := (show ∃ t, u = Value.int i t from r); cases e; rfl
  | str x => obtain ⟨t, e⟩ := (show ∃ t, u = Value.str x t from r); cases e; rfl
  | byt b => obtain ⟨t, e⟩ := (show ∃ t, u = Value.bytes b t from r); cases e; rfl
  | flt b => obtain ⟨t, e⟩ := (show ∃ t, u = Value.float b t from r); cases e; rfl
  | ref a => cases (show u = Value.ref a from r); rfl
  | ty n => cases (show u = Value.type n from r); rfl

section
variable {P : Program} {w : World} {H H' : Hp} {h h' : Heap} {a C dx : Addr} {fs fs' : List (Str × V)}
theorem ins_get (hok : HOk P w H h) (e : H a = some (.ins C dx fs)) : ∃ mA, ObjM h a dx C mA ∧ (∀ f, RelO (fs.lookup f) (mA f)) ∧ PySem.Within mA (fs.map (·.1)) ∧ fs.length ≤ 1000 ∧ H dx = some (.own a) := by
  obtain ⟨d, z, ne, ob, mA, n, r, q⟩ := (show ObjOk P w H h a (.ins C dx fs) from hok a _ e)
  exact ⟨mA, ⟨ob, n, ne⟩, r, q, z, d⟩
end

structure Cls (K : PySem.W.Frag) (C : Addr) : Prop where
  pg : PySem.W.plainGet K C Str.empty = true
  hd : PySem.W.hasDictIn K C = true
  po : PySem.W.plainOver K C = true
  sa : PySem.W.findIn K (.ref C) "__setattr__" = some (some (.builtin "object.__setattr__"))
theorem Cls.get {K : PySem.W.Frag} {C : Addr} (c : Cls K C) (f : Str) : PySem.W.plainGet K C f = true := c.pg
/-- no class of it has the name -/
def NoAttr (K : PySem.W.Frag) (C : Addr) (f : Str) : Prop := PySem.W.findIn K (.ref C) f = some none
theorem NoAttr.taker {K : PySem.W.Frag} {C : Addr} {f : Str} (n : NoAttr K C f) : PySem.W.takerIn K C f = some none := by
  unfold PySem.W.takerIn
  rw [show PySem.W.findIn K (.ref C) f = some none from n]
  rfl
/-- a constant of the class -/
structure Con (K : PySem.W.Frag) (C : Addr) (f : Str) (v : V) (u : Value) : Prop where
  at_ : PySem.W.findIn K (.ref C) f = some (some u)
  rel : RelV v u
  get : PySem.W.specialIn K u "__get__" = some none
  cp : PySem.W.copiedNames.contains f = false
/-- a method: a plain def of the class or of one above it -/
structure Meth (K : PySem.W.Frag) (C : Addr) (m : Str) (f : Addr) : Prop where
  at_ : PySem.W.findIn K (.ref C) m = some (some (.ref f))
  fn : PySem.W.isFn K (.ref f) = true
  kp : PySem.W.keepIn K (.ref f) = true

section
variable {X : Cx} {pins : List (Addr × Obj)} {σ : St} {H : Hp} {s : Shared} {a C dx : Addr} {fs : List (Str × V)} {f : Str} {v : V} {A : Around} {E : Value → Shared → Prop}

theorem getattr_ok {b : Bool} {Q : Value → Shared → Prop} (I : Inv X pins σ H s) (e : H a = some (.ins C dx fs)) (c : Cls X.K C) (n : NoAttr X.K C f) (l : fs.lookup f = some v)
    (h : ∀ u s', Inv X pins σ H s' → RelV v u → Q u s') : wpAny (model X.prog X.w) A (getAttr (.ref a) f b) Q E s := by
  obtain ⟨mA, O, r, _, _, _⟩ := ins_get I.hok e
  obtain ⟨u, hu, ru⟩ := RelO.some_of (v := v) (o := mA f) (by rw [← l]; exact r f)
  exact get_map I.kIn O (c.get f) c.hd n hu (handed_of ru) (h u _ (I.tok _) ru)

theorem getmeth_ok {m : Str} {g : Addr} {pl : Sem Bool} {Q : Value × List Value → Shared → Prop} (I : Inv X pins σ H s) (e : H a = some (.ins C dx fs)) (c : Cls X.K C) (k : Meth X.K C m g) (l : fs.lookup m = none)
    (h : Q (.ref g, [.ref a]) s) : wpAny (model X.prog X.w) A (getMethod (.ref a) m pl) Q E s := by
  obtain ⟨mA, O, r, _, _, _⟩ := ins_get I.hok e
  have hn : mA m = none := RelO.none_of (by rw [← l]; exact r m)
  exact get_meth I.kIn O (c.get m) k.at_ k.fn hn h

theorem setattr_ok {y : V} {u : Value} {Q : Unit → Shared → Prop} (I : Inv X pins σ H s) (e : H a = some (.ins C dx fs)) (c : Cls X.K C) (n : NoAttr X.K C f) (hl : fs.length < 1000) (ry : RelV y u)
    (h : ∀ s', Inv X pins σ (upd H a (.ins C dx (putF f y fs))) s' → Q () s') : wpAny (model X.prog X.w) A (setAttr (.ref a) f u) Q E s := by
  obtain ⟨mA, O, r, wi, _, ho⟩ := ins_get I.hok e
  have hz : (fs.map (·.1)).length ≤ sizeLine := by rw [List.length_map, sizeLine_eq]; omega
  refine set_map I.kIn O c.sa c.po n.taker c.hd wi hz fun h' O' sb => h _ ?_
  have hd : ∃ o, h'.get? dx = some o := let ⟨o, _, _, e', _⟩ := O'.ns; ⟨o, e'⟩
  refine I.write (x := a) (e := dx) (by rw [e]; exact True.intro) (.inr ho) (fun b q hb z => (sb.2 b hb).trans z) hd ?_
  refine ⟨by rw [upd_ne O.ne]; exact ho, ?_, O.ne, O'.obj, _, O'.ns, fun g => ?_, fun g hg => ?_⟩
  · have := length_putF f y fs; omega
  · show RelO ((putF f y fs).lookup g) (if g = f then some u else mA g)
    rw [lookup_putF]
    by_cases q : g = f
    · rw [if_pos q, if_pos q]; exact ry
    · rw [if_neg q, if_neg q]; exact r g
  · by_cases q : g = f
    · rw [q]; exact (keys_putF f y fs).1
    · refine (keys_putF f y fs).2 g (wi g fun z => hg ?_)
      show (if g = f then some u else mA g) = none
      rw [if_neg q]; exact z

/-- a new instance, tracked, without attributes -/
theorem Inv.made (I : Inv X pins σ H s) : Inv X pins σ (upd (upd H s.heap.objs.size (.own (s.heap.objs.size + 1))) (s.heap.objs.size + 1) (.ins C s.heap.objs.size []))
    { s with heap := (s.heap.push PySem.W.emptyDict).push (PySem.W.instObj C s.heap.objs.size) } := by
  have e1 : (s.heap.push PySem.W.emptyDict).get? s.heap.objs.size = some PySem.W.emptyDict := Heap.get?_push_size s.heap rfl
  have e2 : ((s.heap.push PySem.W.emptyDict).push (PySem.W.instObj C s.heap.objs.size)).get? (s.heap.objs.size + 1) = some (PySem.W.instObj C s.heap.objs.size) := by
    have := Heap.get?_push_size (s.heap.push PySem.W.emptyDict) (o := PySem.W.instObj C s.heap.objs.size) rfl
    rwa [Heap.size_push] at this
  have e3 : (s.heap.push PySem.W.emptyDict).Ns s.heap.objs.size (fun _ => none) := ⟨PySem.W.emptyDict, #[], _, e1, rfl, (fun e he => absurd he (by simp)), fun _ => rfl⟩
  have I1 := I.laid (a := s.heap.objs.size) (o := .own (s.heap.objs.size + 1)) (h' := s.heap.push PySem.W.emptyDict) (t' := s.toks) (fun b u q => Heap.get?_push_of_some _ q) (Nat.le_refl _) ⟨_, e1⟩
  refine I1.laid (a := s.heap.objs.size + 1) (o := .ins C s.heap.objs.size []) (t' := s.toks) (fun b u q => Heap.get?_push_of_some _ q) (Nat.le_of_eq (Heap.size_push _ _)) ?_
  have ne : s.heap.objs.size ≠ s.heap.objs.size + 1 := Nat.ne_of_lt (Nat.lt_succ_self _)
  refine ⟨by rw [upd_ne ne, upd_same], Nat.zero_le _, ne, e2, fun _ => none, (Heap.Ns1.of_empty e3).at fun o q => Heap.get?_push_of_some _ q, fun _ => True.intro, fun y hy => absurd rfl hy⟩

/-- e.f where nothing but the object is asked: through attributeBase (super) and the last hold -/
theorem attr_of {prog : Program} {w : World} {env : Env} {e : Expr} {f : Str} {pos : Pos} {s : Shared} {Q : Value → Shared → Prop} (hb : attributeBase e f env (eval e env) = eval e env)
    (h : wpAny (model prog w) A (eval e env) (fun o s₁ => wpAny (model prog w) A (getAttr o f true) Q E s₁) E s) : wpAny (model prog w) A (eval (.Attribute e f pos) env) Q E s :=
  Attribute_any_ h (by rw [arm_eval_Attribute, hb])
end

/-- e.f, an attribute of the instance -/
def tFld (K : PySem.W.Frag) (ta : TE) (f : Str) : TE := fun σ H Q => ta σ H fun x H1 => ∃ a C dx fs v, x = .ref a ∧ H1 a = some (.ins C dx fs) ∧ Cls K C ∧ NoAttr K C f ∧ fs.lookup f = some v ∧ Q v H1
/-- e.f, a constant of the class -/
def tCon (K : PySem.W.Frag) (ta : TE) (f : Str) : TE := fun σ H Q => ta σ H fun x H1 => ∃ a C dx fs v u, x = .ref a ∧ H1 a = some (.ins C dx fs) ∧ Cls K C ∧ Con K C f v u ∧ fs.lookup f = none ∧ Q v H1
/-- e.f = value -/
def sFld (K : PySem.W.Frag) (ta tv : TE) (f : Str) : TS := fun D σ H => tv σ H fun y H1 => ta σ H1 fun x H2 => ∃ a C dx fs, x = .ref a ∧ H2 a = some (.ins C dx fs) ∧ Cls K C ∧ NoAttr K C f ∧ fs.length < 1000 ∧
  D.nx σ (upd H2 a (.ins C dx (putF f y fs)))
/-- an augmented operator on two values -/
def InOp (X : Cx) (op : Operator) (rd : V → V → Hp → VK → Prop) : Prop :=
  ∀ (pins : List (Addr × Obj)) (s : Shared) (σ : St) (H : Hp) (x y : V) (u v : Value) (Q : VK), Inv X pins σ H s → RelV x u → RelV y v → rd x y H Q → wpAny (model X.prog X.w) X.A (inplaceOp op u v) (EP X pins σ Q) X.xe s
/-- e.f op= value -/
def sFldAug (K : PySem.W.Frag) (ta tv : TE) (rd : V → V → Hp → VK → Prop) (f : Str) : TS := fun D σ H => ta σ H fun x H1 => ∃ a C dx fs v, x = .ref a ∧ H1 a = some (.ins C dx fs) ∧ Cls K C ∧ NoAttr K C f ∧ fs.lookup f = some v ∧
  tv σ H1 fun y H2 => rd v y H2 fun z H3 => ∃ dx' fs', H3 a = some (.ins C dx' fs') ∧ fs'.length < 1000 ∧ D.nx σ (upd H3 a (.ins C dx' (putF f z fs')))

section
variable {X : Cx} {o e value : Expr} {f : Str} {pos pos' tpos : Pos} {ta tv : TE}
theorem pe_fld (he : PE X e ta) (hb : attributeBase e f X.env (eval e X.env) = eval e X.env) : PE X (.Attribute e f pos) (tFld X.K ta f) := by
  intro pins s σ H Q I h
  refine attr_of hb (thn (he pins s σ H _ I h) fun u s1 ⟨x, H1, I1, rx, a, C, dx, fs, v, ex, ea, c, n, l, q⟩ => ?_)
  subst ex
  obtain rfl : u = Value.ref a := rx
  exact getattr_ok I1 ea c n l fun u' s2 I2 ru => ⟨v, H1, I2, ru, q⟩
theorem ps_fld (ha : PE X o ta) (hv : PE X value tv) (hs : swapsWith value (some (.Attribute o f pos')) pos.line X.env = pure false) : PS X (.Assign [.Attribute o f pos'] value pos) (sFld X.K ta tv f) := by
  intro pins s σ H D I h
  refine plainObj_wpAny_Assign_Attribute (thn (hv pins s σ H _ I h) fun u s1 ⟨y, H1, I1, ry, q⟩ => thn (ha pins s1 σ H1 _ I1 q) fun ov s2 ⟨x, H2, I2, rx, a, C, dx, fs, ex, ea, c, n, l, q2⟩ => ?_) hs
  subst ex
  obtain rfl : ov = Value.ref a := rx
  exact setattr_ok I2 ea c n l ry fun s3 I3 => ⟨σ, _, I3, q2⟩
def rAdd : V → V → Hp → VK → Prop := fun x y H Q => ∃ i j, x = .int i ∧ y = .int j ∧ Q (.int (i + j)) H
def rSub : V → V → Hp → VK → Prop := fun x y H Q => ∃ i j, x = .int i ∧ y = .int j ∧ Q (.int (i - j)) H
end

section
variable {X : Cx} {pins : List (Addr × Obj)} {σ : St} {H : Hp} {s : Shared} {A : Around} {E : Value → Shared → Prop} {Q : Value → Shared → Prop} {c : Value} {b : Bool}
/-- the type of a value, as the fragment's deciders take it; for an instance its class -/
inductive TyOf (K : PySem.W.Frag) (H : Hp) : V → Value → Prop where
  | non : TyOf K H .non (.type "NoneType")
  | bl (x : Bool) : TyOf K H (.bl x) (.type "bool")
  | int (i : Int) : TyOf K H (.int i) (.type "int")
  | str (x : Str) : TyOf K H (.str x) (.type "str")
  | flt (x : UInt64) : TyOf K H (.flt x) (.type "float")
  | lst {a : Addr} {xs : List V} (e : H a = some (.lst xs)) : TyOf K H (.ref a) (.type "list")
  | frz {a : Addr} {o : Obj} {xs : List V} (e : H a = some (.frz o (.lst xs))) : TyOf K H (.ref a) (.type "list")
  | tup {a : Addr} {xs : List V} (e : H a = some (.tup xs)) : TyOf K H (.ref a) (.type "tuple")
  | dK {a : Addr} {kvs : List (Key × V)} (e : H a = some (.dK kvs)) : TyOf K H (.ref a) (.type "dict")
  | dT {a : Addr} {kvs : List (List Key × V)} (e : H a = some (.dT kvs)) : TyOf K H (.ref a) (.type "dict")
  | ins {a C dx : Addr} {fs : List (Str × V)} (e : H a = some (.ins C dx fs)) (cl : Cls K C) (ha : PySem.W.findIn K (.ref C) "__class__" = some (some (.builtin "object.__class__")))
      (hn : PySem.W.specialIn K (.builtin "object.__class__") "__get__" = some (some (.builtin "getset_descriptor.__get__"))) (htk : PySem.W.takesIn K (.builtin "object.__class__") = some true)
      (hm : PySem.W.mroIn K C (.type "object") = some true) : TyOf K H (.ref a) (.ref C)
/-- isinstance(x, c) for one class c, a built-in or an own one: kitOne's answer -/
theorem isinst_ok {x : V} {u t : Value} (I : Inv X pins σ H s) (rx : RelV x u) (ty : TyOf X.K H x t) (e : PySem.W.kitOne X.K t c = some b) (h : ∀ tk, Q (.bool b) { s with toks := tk }) :
    wpAny (model X.prog X.w) A (call (.builtin "isinstance") [u, c]) Q E s := by
  cases ty with
  | non => cases (show u = Value.none from rx); exact PySem.W.kia_one PySem.W.kitx_none I.kIn True.intro e (fun z => nomatch z) h
  | bl y => cases (show u = Value.bool y from rx); exact PySem.W.kia_one PySem.W.kitx_bool I.kIn True.intro e (fun z => nomatch z) h
  | int i => obtain ⟨t, q⟩ := (show ∃ t, u = Value.int i t from rx); cases q; exact PySem.W.kia_one PySem.W.kitx_int I.kIn True.intro e (fun z => nomatch z) h
  | str y => obtain ⟨t, q⟩ := (show ∃ t, u = Value.str y t from rx); cases q; exact PySem.W.kia_one PySem.W.kitx_str I.kIn True.intro e (fun z => nomatch z) h
  | flt y => obtain ⟨t, q⟩ := (show ∃ t, u = Value.float y t from rx); cases q; exact PySem.W.kia_one PySem.W.kitx_float I.kIn True.intro e (fun z => nomatch z) h
  | @lst a xs ea =>
    cases (show u = Value.ref a from rx)
    obtain ⟨_, _, n, _, h1⟩ := (show ObjOk X.prog X.w H s.heap a (.lst xs) from I.hok a _ ea)
    exact PySem.W.kia_one PySem.W.kitx_list I.kIn ⟨_, h1, rfl⟩ e (fun z => nomatch z) h
  | @frz a ob xs ea =>
    cases (show u = Value.ref a from rx)
    obtain ⟨_, _, _, n, _, h1⟩ := (show ObjOk X.prog X.w H s.heap a (.frz ob (.lst xs)) from I.hok a _ ea)
    exact PySem.W.kia_one PySem.W.kitx_list I.kIn ⟨_, h1, rfl⟩ e (fun z => nomatch z) h
  | @tup a xs ea =>
    cases (show u = Value.ref a from rx)
    obtain ⟨_, _, _, p⟩ := (show ObjOk X.prog X.w H s.heap a (.tup xs) from I.hok a _ ea)
    obtain ⟨o, h1, h2, _⟩ := p
    exact PySem.W.kia_one PySem.W.kitx_tuple I.kIn ⟨o, h1, h2⟩ e (fun z => nomatch z) h
  | @dK a kvs ea =>
    cases (show u = Value.ref a from rx)
    obtain ⟨_, _, vs, _, p⟩ := (show ObjOk X.prog X.w H s.heap a (.dK kvs) from I.hok a _ ea)
    obtain ⟨o, es, ep, h1, h2, _⟩ := p
    exact PySem.W.kia_one PySem.W.kitx_dict I.kIn ⟨o, h1, h2.1⟩ e (fun z => nomatch z) h
  | @dT a kvs ea =>
    cases (show u = Value.ref a from rx)
    obtain ⟨_, _, xs, _, o, es, ep, h1, h2, _⟩ := (show ObjOk X.prog X.w H s.heap a (.dT kvs) from I.hok a _ ea)
    exact PySem.W.kia_one PySem.W.kitx_dict I.kIn ⟨o, h1, h2.1⟩ e (fun z => nomatch z) h
  | @ins a C dx fs ea cl ha hn htk hm =>
    cases (show u = Value.ref a from rx)
    obtain ⟨mA, O, _⟩ := ins_get I.hok ea
    obtain ⟨od, J, _⟩ := O.look
    exact PySem.W.kia_one (PySem.W.kitx_own (cl.get _) cl.hd ha hn htk hm) I.kIn J e (fun z => nomatch z) h
end
end L2

namespace L2
open PySem PySem.Spec PyProof.Rows

structure Room (cm : Bool) (k : Nat) (A : Around) : Prop where
  hd : cm = true → A.handled = none
  dp : A.depth + 3 * k + 5 < recursionLimit
  un : A.units + 16 * k + 200 < cLine
theorem Room.mono {cm : Bool} {j k : Nat} {A : Around} (r : Room cm k A) (h : j ≤ k) : Room cm j A := ⟨r.hd, by have := r.dp; omega, by have := r.un; omega⟩
theorem Room.deeper {cm : Bool} {k : Nat} {A : Around} (r : Room cm (k + 1) A) (env : Env) : Room cm k (A.deeper env) :=
  ⟨r.hd, by have := r.dp; show A.depth + 1 + 3 * k + 5 < _; omega, by have := r.un; show A.units + 3 + 16 * k + 200 < _; omega⟩
theorem Room.in1 {cm : Bool} {k : Nat} {A : Around} (r : Room cm (k + 1) A) : Room cm k A.in1 :=
  ⟨r.hd, by have := r.dp; show A.depth + 3 * k + 5 < _; omega, by have := r.un; show A.units + 1 + 16 * k + 200 < _; omega⟩
theorem make_depth {A : Around} {C : Addr} {us : List Value} {kw : List (Str × Value)} : (A.under (.builtin "type.__call__" ⟨.ref C :: us, kw⟩)).depth = A.depth + 1 := by
  first | rfl | simp [Around.under, Code.weight, Code.isCreation, Code.isGuard, Code.isCaller, Code.frames, Code.isFrame, guardIds]
theorem make_units {A : Around} {C : Addr} {us : List Value} {kw : List (Str × Value)} : (A.under (.builtin "type.__call__" ⟨.ref C :: us, kw⟩)).units = A.units + 1 := by
  first | rfl | simp [Around.under, Code.cUnits, Code.frames, Code.isFrame]
theorem Room.make {cm : Bool} {k : Nat} {A : Around} (r : Room cm (k + 1) A) (C : Addr) (us : List Value) (kw : List (Str × Value)) : Room cm k (A.under (.builtin "type.__call__" ⟨.ref C :: us, kw⟩)) :=
  ⟨r.hd, by have := r.dp; rw [make_depth]; omega, by have := r.un; rw [make_units]; omega⟩
theorem Room.depth {cm : Bool} {k : Nat} {A : Around} (r : Room cm k A) : A.depth < recursionLimit := by have := r.dp; omega
theorem Room.units {cm : Bool} {k : Nat} {A : Around} (r : Room cm k A) : A.units + 64 < cLine := by have := r.un; omega
def tNil : TA := fun _ H Q => Q [] H
def tCons (ta : TE) (tr : TA) : TA := fun σ H Q => ta σ H fun x H1 => tr σ H1 fun xs H2 => Q (x :: xs) H2
section
variable {X : Cx} {e : Expr} {es : List Expr} {te : TE} {t : TA} {pos : Pos}
theorem pa_nil : PA X [] tNil := fun _ _ _ _ H Q I h => Calls.spliced_nil ⟨[], H, I, .nil, h⟩
theorem pa_cons (ha : PE X e te) (hr : PA X es t) (hs : starEach (e :: es) X.env = (false, eval e X.env) :: starEach es X.env := by rfl) : PA X (e :: es) (tCons te t) := by
  intro pos pins s σ H Q I h
  rw [hs]
  show wpAny _ _ (spliced ((false, eval e X.env) :: backTo pos (starEach es X.env))) _ _ s
  refine Calls.spliced_cons (thn (ha pins s σ H _ I h) fun u s1 ⟨x, H1, I1, r1, q1⟩ => ?_)
  exact thn (hr pos pins s1 σ H1 _ I1 q1) fun us s2 ⟨xs, H2, I2, r2, q2⟩ => ⟨x :: xs, H2, I2, .cons r1 r2, q2⟩

/-- a tuple, a list of written items -/
def tTup (t : TA) : TE := fun σ H Q => t σ H fun xs H1 => xs.length ≤ sizeLine ∧ ∀ p, H1 p = none → Q (.ref p) (upd H1 p (.tup xs))
def tLst (t : TA) : TE := fun σ H Q => t σ H fun xs H1 => xs.length ≤ sizeLine ∧ ∀ p, H1 p = none → Q (.ref p) (upd H1 p (.lst xs))
theorem pe_tup {x1} (h : PA X es t) : PE X (.Tuple es x1 pos) (tTup t) := by
  intro pins s σ H Q I hq
  refine wpAny_Tuple_spliced (thn (h pos pins s σ H _ I hq) fun us s1 ⟨xs, H1, I1, r, z, q⟩ => ⟨by rw [← r.length]; exact z, ?_⟩)
  have hf : H1 s1.heap.objs.size = none := I1.hok.fresh (Nat.le_refl _)
  refine ⟨.ref s1.heap.objs.size, upd H1 s1.heap.objs.size (.tup xs), I1.laid (t' := s1.toks) (fun b u e => Heap.get?_push_of_some _ e) (Nat.le_refl _) ?_, rfl, q _ hf⟩
  exact ⟨z, us, r, ⟨_, Heap.get?_push_size _ rfl, rfl, _, rfl⟩⟩
theorem pe_lst (h : PA X es t) : PE X (.List es pos) (tLst t) := by
  intro pins s σ H Q I hq
  refine wpAny_List_spliced (thn (h pos pins s σ H _ I hq) fun us s1 ⟨xs, H1, I1, r, z, q⟩ => ⟨by rw [← r.length]; exact z, ?_⟩)
  have hf : H1 s1.heap.objs.size = none := I1.hok.fresh (Nat.le_refl _)
  refine ⟨.ref s1.heap.objs.size, upd H1 s1.heap.objs.size (.lst xs), I1.laid (t' := s1.toks) (fun b u e => Heap.get?_push_of_some _ e) (Nat.le_refl _) ?_, rfl, q _ hf⟩
  exact ⟨z, us, 0, r, Heap.get?_push_size _ rfl⟩
end

/-- a def's promise: the bound arguments in the parameters' order, the heap, the wanted end, the wanted exception -/
abbrev Sp := List V → Hp → VK → XK → Prop
/-- how an exception lies behind a call (file 08 gives it): the callers' frames, abstract heap and state ahead of the call, the wish, the exception, the state -/
abbrev CXT := List Env → Hp → Shared → XK → Value → Shared → Prop

/-- the state at a call -/
structure Env0 (P : Program) (w : World) (K : PySem.W.Frag) (mg : Str → Option Value) (base : Heap) (A : Around) (outer : List Env) (s : Shared) (H : Hp) : Prop where
  frames : A.frames = some outer
  mod : Mod K mg base
  bs : ∀ b o, base.get? b = some o → s.heap.get? b = some o ∧ H b = none
  bsz : base.objs.size ≤ s.heap.objs.size
  funs : s.heap.FunFrames base outer
  frf : ∀ b ∈ frs outer, H b = none
  hok : HOk P w H s.heap
  bare : AllBare s.gens
/-- a call's end -/
def CE (outer : List Env) (P : Program) (w : World) (H : Hp) (s : Shared) (Q : VK) (u : Value) (s' : Shared) : Prop :=
  ∃ v H', s'.os = s.os ∧ AllBare s'.gens ∧ Un (frs outer) [] H H' s.heap s'.heap ∧ HOk P w H' s'.heap ∧ RelV v u ∧ Q v H'
def CR (CX : CXT) (outer : List Env) (P : Program) (w : World) (H : Hp) (s : Shared) (Q : VK) (E : XK) (r : Result) (s' : Shared) : Prop :=
  match r with
  | .ok (.ret u) => CE outer P w H s Q u s'
  | .ok _ => False
  | .error e => CX outer H s E e s'
structure FnOk (P : Program) (w : World) (K : PySem.W.Frag) (mg : Str → Option Value) (base : Heap) (CX : CXT) (cm : Bool) (k : Nat) (f : Addr) (fd : FuncData) (ps : List Str) (sp : Sp) : Prop where
  len : ∀ vs H Q E, sp vs H Q E → vs.length = ps.length
  run : ∀ (A : Around) (outer : List Env) (s : Shared) (H : Hp) (args : Args) (us : List Value) (vs : List V) (Q : VK) (E : XK), Room cm k A → Env0 P w K mg base A outer s H → BindsTo s fd args (ps.zip us) → Vals vs us → sp vs H Q E →
    codeAny (model P w) A (.call (.ref f) args) (CR CX outer P w H s Q E) s
theorem FnOk.mono {cm : Bool} {P : Program} {w : World} {K : PySem.W.Frag} {mg : Str → Option Value} {base : Heap} {CX : CXT} {j k : Nat} {f : Addr} {fd : FuncData} {ps : List Str} {sp : Sp} (F : FnOk P w K mg base CX cm j f fd ps sp) (h : j ≤ k) :
    FnOk P w K mg base CX cm k f fd ps sp := ⟨F.len, fun A outer s H args us vs Q E hr => F.run A outer s H args us vs Q E (hr.mono h)⟩
theorem Env0.make {P : Program} {w : World} {K : PySem.W.Frag} {mg : Str → Option Value} {base : Heap} {A : Around} {outer : List Env} {s : Shared} {H : Hp} (e : Env0 P w K mg base A outer s H) (C : Addr) (us : List Value) (kw : List (Str × Value)) :
    Env0 P w K mg base (A.under (.builtin "type.__call__" ⟨.ref C :: us, kw⟩)) outer s H := ⟨by first | exact e.frames | (simpa [Around.under, Code.envs, Code.isFrame, pushEnvs] using e.frames), e.mod, e.bs, e.bsz, e.funs, e.frf, e.hok, e.bare⟩
theorem Env0.in1 {P : Program} {w : World} {K : PySem.W.Frag} {mg : Str → Option Value} {base : Heap} {A : Around} {outer : List Env} {s : Shared} {H : Hp} (e : Env0 P w K mg base A outer s H) :
    Env0 P w K mg base A.in1 outer s H := ⟨e.frames, e.mod, e.bs, e.bsz, e.funs, e.frf, e.hok, e.bare⟩

section
variable {X : Cx} {pins : List (Addr × Obj)} {σ : St} {H : Hp} {s s' : Shared}
/-- from a body: what a callee wants -/
theorem Inv.env0 (I : Inv X pins σ H s) : Env0 X.prog X.w X.K X.mg X.base X.A X.stack s H :=
  ⟨I.ok.frames, I.ok.mod, I.bs, Nat.le_trans I.ok.bsz I.sz, I.stack, I.stkFree, I.hok, I.bare⟩
/-- behind a call -/
theorem Inv.after {Q : VK} {u : Value} (I : Inv X pins σ H s) (h : CE X.stack X.prog X.w H s Q u s') : EP X pins σ Q u s' := by
  obtain ⟨v, H', os, bare, un, hok, r, q⟩ := h
  obtain ⟨hh, g, d, t, os'⟩ := s'
  obtain rfl : os' = s.os := os
  exact ⟨v, H', I.call (h' := hh) (g' := g) (d' := d) (t' := t) (ch := []) un hok bare (fun b z => absurd z (by simp)), r, q⟩
end

/-- f(..): the written arguments, then the defaults dvs; E: what is wanted of an exception -/
def tCall (sp : Sp) (dvs : List V) (E : XK) (t : TA) : TE := fun σ H Q => t σ H fun vs H1 => sp (vs ++ dvs) H1 Q E
/-- o.m(..) of an instance of the class at C -/
def tMeth (C : Addr) (m : Str) (sp : Sp) (dvs : List V) (E : XK) (ta : TE) (t : TA) : TE := fun σ H Q => ta σ H fun x H1 => ∃ a dx fs, x = .ref a ∧ H1 a = some (.ins C dx fs) ∧ fs.lookup m = none ∧
  t σ H1 fun vs H2 => sp (x :: (vs ++ dvs)) H2 Q E
/-- C(..): a new instance and its dict, then __init__ -/
def tMake (C : Addr) (sp : Sp) (dvs : List V) (E : XK) (t : TA) : TE := fun σ H Q => t σ H fun vs H1 => ∀ x dx, H1 x = none → H1 dx = none → dx ≠ x →
  sp (.ref x :: (vs ++ dvs)) (upd (upd H1 dx (.own x)) x (.ins C dx [])) (fun v H2 => v = .non ∧ Q (.ref x) H2) E

/-- how the parameters are bound: us the positional arguments, kw the keywords' values by name, ds the defaults that fill up -/
def Binds (K : PySem.W.Frag) (fd : FuncData) (ps : List Str) (ds : List Value) : Prop :=
  ∀ (s : Shared) (us : List Value), K.In s.heap → (us ++ ds).length = ps.length → BindsTo s fd ⟨us, []⟩ (ps.zip (us ++ ds))
/-- every parameter is given -/
theorem Binds.all {K : PySem.W.Frag} {fd : FuncData} {ps : List Str} (h : ∀ us : List Value, us.length = ps.length → bindArgs fd ⟨us, []⟩ = pure (ps.zip us)) : Binds K fd ps [] := fun s us _ hl => by
  rw [List.append_nil] at hl ⊢
  exact .of_eq (h us hl)

/-- an exception of a callee reaches what this body wants of exceptions -/
def Passes (CX : CXT) (X : Cx) (E : XK) : Prop := ∀ (pins : List (Addr × Obj)) (σ : St) (H : Hp) (s : Shared) (e : Value) (s' : Shared), Inv X pins σ H s → CX X.stack H s E e s' → X.xe e s'

section
variable {X : Cx} {CX : CXT} {cm : Bool} {k : Nat} {f C : Addr} {fd : FuncData} {ps : List Str} {sp : Sp} {dvs : List V} {ds : List Value} {E : XK} {x m : Str} {p pos apos : Pos} {e o : Expr} {es : List Expr} {ta : TE} {t : TA}

/-- the callee runs -/
theorem run_fn {pins : List (Addr × Obj)} {σ : St} {H : Hp} {s : Shared} {Q : VK} {us : List Value} {vs : List V} (F : FnOk X.prog X.w X.K X.mg X.base CX cm k f fd ps sp) (hr : Room cm k X.A) (hb : Binds X.K fd ps ds) (hd : Vals dvs ds) (hx : Passes CX X E)
    (I : Inv X pins σ H s) (r : Vals vs us) (h : sp (vs ++ dvs) H Q E) : wpAny (model X.prog X.w) X.A (call (.ref f) us) (EP X pins σ Q) X.xe s := by
  have r2 : Vals (vs ++ dvs) (us ++ ds) := r.append hd
  have hl : (us ++ ds).length = ps.length := by rw [← r2.length]; exact F.len _ _ _ _ h
  refine wpAny_call (codeAny_mono (F.run X.A X.stack s H ⟨us, []⟩ (us ++ ds) (vs ++ dvs) Q E hr I.env0 (hb s us I.kIn hl) r2 h) fun r s' hq => ?_)
  cases r with
  | error e => exact hx pins σ H s e s' I hq
  | ok fl =>
    cases fl with
    | ret u => exact I.after hq
    | next => exact False.elim hq
    | brk => exact False.elim hq
    | cont => exact False.elim hq

theorem pe_call (F : FnOk X.prog X.w X.K X.mg X.base CX cm k f fd ps sp) (hr : Room cm k X.A) (hg : Gl X x) (hm : X.mg x = some (.ref f)) (hk : PySem.W.keepIn X.K (.ref f) = true) (hb : Binds X.K fd ps ds) (hd : Vals dvs ds) (hx : Passes CX X E)
    (ha : PA X (e :: es) t) (hdb : (x == ("__debug__" : Str)) = false := by decide) (he : starEach (e :: es) X.env = (false, eval e X.env) :: starEach es X.env := by rfl) (hpl : (backTo pos (starEach es X.env)).any (·.1) = false := by rfl) :
    PE X (.Call (.Name x p) (e :: es) [] pos) (tCall sp dvs E t) := by
  intro pins s σ H Q I h
  refine wpAny_Call_Name_kw (ld_glob I hg hm ?_ hdb)
  refine PySem.W.callWith_K (h₀ := X.base) I.ok.mod.kin hk (thn (ha pos pins s σ H _ I h) fun us s1 ⟨vs, H1, I1, r, q⟩ => ⟨I1.kIn, ?_⟩) he hpl
  exact run_fn F hr hb hd hx I1 r q
/-- what a class must have to be made -/
structure Mk (K : PySem.W.Frag) (C f : Addr) : Prop where
  makes : PySem.W.makesIn K C = true
  init : PySem.W.findIn K (.ref C) "__init__" = some (some (.ref f))
  fn : PySem.W.isFn K (.ref f) = true
  kp : PySem.W.keepIn K (.ref C) = true

theorem run_make {pins : List (Addr × Obj)} {σ : St} {H : Hp} {s : Shared} {Q : VK} {us : List Value} {vs : List V} (M : Mk X.K C f) (F : FnOk X.prog X.w X.K X.mg X.base CX cm k f fd ps sp) (hr : Room cm (k + 1) X.A) (hb : Binds X.K fd ps ds) (hd : Vals dvs ds)
    (hx : Passes CX X E) (I : Inv X pins σ H s) (r : Vals vs us)
    (h : ∀ x dx, H x = none → H dx = none → dx ≠ x → sp (.ref x :: (vs ++ dvs)) (upd (upd H dx (.own x)) x (.ins C dx [])) (fun v H2 => v = .non ∧ Q (.ref x) H2) E) :
    wpAny (model X.prog X.w) X.A (call (.ref C) us) (EP X pins σ Q) X.xe s := by
  have hq := h (s.heap.objs.size + 1) s.heap.objs.size (I.hok.fresh (Nat.le_succ _)) (I.hok.fresh (Nat.le_refl _)) (Nat.ne_of_lt (Nat.lt_succ_self _))
  have I2 := Inv.made (C := C) I
  have r2 : Vals (V.ref (s.heap.objs.size + 1) :: (vs ++ dvs)) (Value.ref (s.heap.objs.size + 1) :: (us ++ ds)) := .cons rfl (r.append hd)
  have hl : (Value.ref (s.heap.objs.size + 1) :: us ++ ds).length = ps.length := by
    have e := r2.length
    rw [F.len _ _ _ _ hq] at e
    exact e.symm
  refine wpAny_call (make_map (f := f) I.kIn M.makes M.init (beq_iff_eq.mp M.fn) (codeAny_mono (F.run _ X.stack _ _ ⟨Value.ref (s.heap.objs.size + 1) :: us, []⟩ (Value.ref (s.heap.objs.size + 1) :: (us ++ ds)) _ _ E (hr.make C us [])
    (I2.env0.make C us []) (hb _ (Value.ref (s.heap.objs.size + 1) :: us) I2.kIn hl) r2 hq) fun r s' hq' => ?_))
  cases r with
  | error e => exact hx pins σ _ _ e s' I2 hq'
  | ok fl =>
    cases fl with
    | ret u =>
      obtain ⟨v, H', I3, rv, ev, q3⟩ := I2.after hq'
      subst ev
      exact ⟨rv, ⟨V.ref (s.heap.objs.size + 1), H', I3, rfl, q3⟩⟩
    | next => exact False.elim hq'
    | brk => exact False.elim hq'
    | cont => exact False.elim hq'
theorem pe_make (M : Mk X.K C f) (F : FnOk X.prog X.w X.K X.mg X.base CX cm k f fd ps sp) (hr : Room cm (k + 1) X.A) (hg : Gl X x) (hm : X.mg x = some (.ref C)) (hb : Binds X.K fd ps ds) (hd : Vals dvs ds) (hx : Passes CX X E)
    (ha : PA X (e :: es) t) (hdb : (x == ("__debug__" : Str)) = false := by decide) (he : starEach (e :: es) X.env = (false, eval e X.env) :: starEach es X.env := by rfl) (hpl : (backTo pos (starEach es X.env)).any (·.1) = false := by rfl) :
    PE X (.Call (.Name x p) (e :: es) [] pos) (tMake C sp dvs E t) := by
  intro pins s σ H Q I h
  refine wpAny_Call_Name_kw (ld_glob I hg hm ?_ hdb)
  refine PySem.W.callWith_K (h₀ := X.base) I.ok.mod.kin M.kp (thn (ha pos pins s σ H _ I h) fun us s1 ⟨vs, H1, I1, r, q⟩ => ⟨I1.kIn, ?_⟩) he hpl
  exact run_make M F hr hb hd hx I1 r q
theorem pe_make0 (M : Mk X.K C f) (F : FnOk X.prog X.w X.K X.mg X.base CX cm k f fd ps sp) (hr : Room cm (k + 1) X.A) (hg : Gl X x) (hm : X.mg x = some (.ref C)) (hb : Binds X.K fd ps ds) (hd : Vals dvs ds) (hx : Passes CX X E)
    (hdb : (x == ("__debug__" : Str)) = false := by decide) : PE X (.Call (.Name x p) [] [] pos) (tMake C sp dvs E tNil) := by
  intro pins s σ H Q I h
  refine wpAny_Call_Name_kw (ld_glob I hg hm ?_ hdb)
  exact PySem.W.callWith_K0 I.kIn M.kp (run_make (us := []) M F hr hb hd hx I .nil h)
end

/-- the values of the keywords, from the left -/
def PK (X : Cx) (kws : List Keyword) (t : TA) : Prop :=
  ∀ (pos : Pos) (pins : List (Addr × Obj)) (s : Shared) (σ : St) (H : Hp) (Q : List V → Hp → Prop), Inv X pins σ H s → t σ H Q → wpAny (model X.prog X.w) X.A (evalAll ((backToKw pos (keywordEach kws X.env)).map (·.2))) (AP X pins σ Q) X.xe s
section
variable {X : Cx} {CX : CXT} {cm : Bool} {k : Nat} {f C : Addr} {fd : FuncData} {ps ks : List Str} {sp : Sp} {E : XK} {x m : Str} {p pos apos kpos : Pos} {e o : Expr} {es : List Expr} {kws : List Keyword} {te ta : TE} {t tk : TA} {nm : Option Str}
/-- how a call with keywords binds: g puts the positional values us and the keywords' values ws (names ks) in the parameters' order, defaults among them -/
structure KBinds (K : PySem.W.Frag) (fd : FuncData) (ps ks : List Str) (g : List Value → List Value → List Value) (gV : List V → List V → List V) : Prop where
  to : ∀ (s : Shared) (us ws : List Value), K.In s.heap → (g us ws).length = ps.length → BindsTo s fd ⟨us, ks.zip ws⟩ (ps.zip (g us ws))
  rel : ∀ {vs : List V} {us : List Value} {zs : List V} {ws : List Value}, Vals vs us → Vals zs ws → Vals (gV vs zs) (g us ws)
def tCallK (sp : Sp) (gV : List V → List V → List V) (E : XK) (t tk : TA) : TE := fun σ H Q => t σ H fun vs H1 => tk σ H1 fun zs H2 => sp (gV vs zs) H2 Q E
variable {g : List Value → List Value → List Value} {gV : List V → List V → List V}
end

/-- names: the parameters first -/
structure FnScope (N P : List Str) (sc : Scope) : Prop where
  kind : sc.kind = .function
  co : sc.isCoroutine = false
  gen : sc.isGenerator = false
  nd : N.Nodup
  pre : N.take P.length = P
  par : ∀ x ∈ P, sc.names.lookup x = some .local ∨ sc.names.lookup x = some .cell
  nofree : ∀ y ∈ sc.names, y.2 ≠ .free

theorem bindL_out {kindOf : Str → Option NameKind} {x : Str} : ∀ {binds : List (Str × Value)} {m : Str → Option Value}, (∀ v, (x, v) ∉ binds) → bindL kindOf binds m x = m x
  | [], _, _ => rfl
  | (n, v) :: r, m, h => by
    unfold bindL
    rw [bindL_out fun w hw => h w (List.mem_cons_of_mem _ hw)]
    split
    · have : x ≠ n := by rintro rfl; exact h v List.mem_cons_self
      simp [this]
    · rfl
theorem bindC_out {kindOf : Str → Option NameKind} {x : Str} : ∀ {binds : List (Str × Value)} {m : Str → Option Value}, (∀ v, (x, v) ∉ binds) → bindC kindOf binds m x = m x
  | [], _, _ => rfl
  | (n, v) :: r, m, h => by
    unfold bindC
    rw [bindC_out fun w hw => h w (List.mem_cons_of_mem _ hw)]
    split
    · rfl
    · have : x ≠ n := by rintro rfl; exact h v List.mem_cons_self
      simp [this]
theorem bindL_get {kindOf : Str → Option NameKind} {x : Str} {v : Value} : ∀ {P : List Str} {vs : List Value} {i : Nat} {m : Str → Option Value}, P.Nodup → P[i]? = some x → vs[i]? = some v → kindOf x = some .local →
    bindL kindOf (P.zip vs) m x = some v
  | [], _, _, _, _, h, _, _ => by simp at h
  | _ :: _, [], _, _, _, _, h, _ => by simp at h
  | p :: P, w :: vs, 0, m, nd, h1, h2, hk => by
    simp at h1 h2; subst h1; subst h2
    show bindL kindOf ((p, w) :: P.zip vs) m p = _
    unfold bindL
    rw [bindL_out fun v hv => (List.nodup_cons.mp nd).1 (List.of_mem_zip hv).1, if_pos hk]
    simp
  | p :: P, w :: vs, i + 1, m, nd, h1, h2, hk => by
    show bindL kindOf ((p, w) :: P.zip vs) m x = _
    unfold bindL
    exact bindL_get (i := i) (List.nodup_cons.mp nd).2 (by simpa using h1) (by simpa using h2) hk
theorem bindC_get {kindOf : Str → Option NameKind} {x : Str} {v : Value} : ∀ {P : List Str} {vs : List Value} {i : Nat} {m : Str → Option Value}, P.Nodup → P[i]? = some x → vs[i]? = some v → kindOf x ≠ some .local →
    bindC kindOf (P.zip vs) m x = some v
  | [], _, _, _, _, h, _, _ => by simp at h
  | _ :: _, [], _, _, _, _, h, _ => by simp at h
  | p :: P, w :: vs, 0, m, nd, h1, h2, hk => by
    simp at h1 h2; subst h1; subst h2
    show bindC kindOf ((p, w) :: P.zip vs) m p = _
    unfold bindC
    rw [bindC_out fun v hv => (List.nodup_cons.mp nd).1 (List.of_mem_zip hv).1, if_neg hk]
    simp
  | p :: P, w :: vs, i + 1, m, nd, h1, h2, hk => by
    show bindC kindOf ((p, w) :: P.zip vs) m x = _
    unfold bindC
    exact bindC_get (i := i) (List.nodup_cons.mp nd).2 (by simpa using h1) (by simpa using h2) hk

/-- the names' values at the entry -/
def start (N : List Str) (vs : List V) : St := vs.map some ++ List.replicate (N.length - vs.length) none

/-- the context of a def's body, at its entry; an exception leaves the frame, then lies as CX says -/
def cxOf (CX : CXT) (cm : Bool) (P : Program) (w : World) (K : PySem.W.Frag) (mg : Str → Option Value) (base : Heap) (N : List Str) (qual : Str) (scope : Scope) (f : Addr) (cd : Value) (A : Around) (outer : List Env) (s : Shared) (H : Hp) (E : XK) : Cx where
  prog := P
  w := w
  K := K
  mg := mg
  base := base
  A := A.deeper (envOfC qual scope s.heap.objs.size f cd)
  N := N
  s₀ := s
  H₀ := H
  env := envOfC qual scope s.heap.objs.size f cd
  outer := outer
  stack := envOfC qual scope s.heap.objs.size f cd :: outer
  ex := []
  calm := cm
  fn := fun _ => true
  pn := []
  xe := fun e s' => wpAny (model P w) (A.deeper (envOfC qual scope s.heap.objs.size f cd)) (leaving (envOfC qual scope s.heap.objs.size f cd) e) (fun _ s'' => CX outer H s E e s'') (fun e' s'' => CX outer H s E e' s'') s'

theorem cell_has {sc : Scope} {n : Nat} {x : Str} (h : sc.names.lookup x = some .cell) : ∃ c, (cellsFrom n sc.names []).lookup x = some c := by
  have q := PySem.W.cellsFrom_some sc.names n [] (.inl h)
  exact Option.isSome_iff_exists.mp q

theorem inv_start {CX : CXT} {cm : Bool} {P : Program} {w : World} {K : PySem.W.Frag} {mg : Str → Option Value} {base : Heap} {N ps : List Str} {qual : Str} {scope : Scope} {f : Addr} {cd : Value} {A : Around} {outer : List Env} {s s1 : Shared} {H : Hp} {E : XK} {us : List Value} {vs : List V}
    (S : FnScope N ps scope) (hd : cm = true → A.handled = none) (e0 : Env0 P w K mg base A outer s H) (hl : vs.length = ps.length) (r : Vals vs us)
    (x : InCallC s s.heap.objs.size (bindL (envOfC qual scope s.heap.objs.size f cd).kindOf (ps.zip us) fun _ => none) (cellsFrom (s.heap.objs.size + 1) scope.names []) (bindC (envOfC qual scope s.heap.objs.size f cd).kindOf (ps.zip us) fun _ => none) s1) :
    Inv (cxOf CX cm P w K mg base N qual scope f cd A outer s H E) [] (start N vs) H s1 := by
  have hpl : ps.length ≤ N.length := by have := congrArg List.length S.pre; rw [List.length_take] at this; omega
  obtain ⟨h1, tk, rfl, hk⟩ := x.done
  have noA : ∀ b : Addr, b ∉ (cxOf CX cm P w K mg base N qual scope f cd A outer s H E).ex := fun b z => absurd (show b ∈ ([] : List Addr) from z) (by simp)
  refine ⟨⟨e0.mod, S.kind, rfl, rfl, Nat.le_refl _, fun y z c h1 h2 => ?_, fun y hy => ?_, fun y c _ h => ?_, hd, Around.frames_deeper e0.frames, .inr ⟨rfl, rfl⟩, fun b z => absurd z (noA b), e0.bs, e0.bsz, fun b _ _ => noA b, fun b z => absurd z (noA b), e0.funs, e0.frf⟩,
    rfl, e0.bare, Un.kept hk, ⟨_, x.toInCall.ns, fun i y v h1 h2 h3 => ?_⟩, fun y c h => ⟨_, x.cell y c h⟩, e0.hok.fresh (Nat.le_refl _), fun y c h => ?_, fun p hp => absurd (show p ∈ ([] : List (Addr × Obj)) from hp) (by simp), e0.hok.kept hk, ?_⟩
  · exact name_of_addr x.apart (PySem.mem_of_lookup h1) (PySem.mem_of_lookup h2)
  · have hy : scope.names.lookup y = some .cell ∨ scope.names.lookup y = some .free := hy
    rcases hy with hy | hy
    · exact cell_has hy
    · exact absurd rfl (S.nofree _ (PySem.mem_of_lookup hy))
  · exact Nat.le_of_lt (x.above y c (PySem.mem_of_lookup h))
  · have hi : i < vs.length := by
      unfold start at h2
      by_cases hi : i < vs.length
      · exact hi
      · rw [List.getElem?_append_right (by simpa using hi)] at h2
        rw [List.getElem?_replicate] at h2
        split at h2 <;> cases h2
    have ha : vs[i]? = some v := by
      unfold start at h2
      rw [List.getElem?_append_left (by simpa using hi), List.getElem?_map] at h2
      cases e : vs[i]? with
      | none => rw [e] at h2; cases h2
      | some a => rw [e] at h2; cases h2; rfl
    obtain ⟨u, hu, rv⟩ := r.get ha
    have hp : ps[i]? = some y := by
      rw [← S.pre, List.getElem?_take_of_lt (by omega)]; exact h1
    have ndP : ps.Nodup := by rw [← S.pre]; exact S.nd.sublist (List.take_sublist _ _)
    refine ⟨u, rv, ?_⟩
    rcases S.par y (List.mem_of_getElem? hp) with k | k
    · exact .inl ⟨k, bindL_get ndP hp hu k⟩
    · obtain ⟨c, e⟩ := cell_has (n := s.heap.objs.size + 1) k
      refine .inr ⟨.inl k, c, e, ?_⟩
      have q := x.cell y c e
      rw [bindC_get ndP hp hu (by show scope.names.lookup y ≠ _; rw [k]; decide)] at q
      exact q
  · exact e0.hok.fresh (Nat.le_of_lt (x.above y c (PySem.mem_of_lookup h)))
  · unfold start
    show _ = N.length
    rw [List.length_append, List.length_map, List.length_replicate]
    omega

/-- THE RULE: a def (or a method) of the text, by its body. The body's reading t is chosen for each entry; it is run at the parameters' values -/
theorem fn_of {CX : CXT} {cm : Bool} {P : Program} {w : World} {K : PySem.W.Frag} {mg : Str → Option Value} {base : Heap} {k : Nat} {f : Addr} {name qual : Str} {params : Arguments} {body : List Stmt} {scope : Scope} {dV kV doc pm cdv ct oc : Value} {an od : Option Addr}
    {osl : Array (Option Value)} {N ps : List Str} {sp : Sp} (lk : K.lookup f = some ⟨oc, od, .func (PySem.W.fnOf name qual params body scope dV kV doc pm an cdv ct), osl⟩) (hcd : PySem.W.codeIn K cdv qual = true) (S : FnScope N ps scope)
    (len : ∀ vs H Q E, sp vs H Q E → vs.length = ps.length)
    (hbody : ∀ (A : Around) (outer : List Env) (s : Shared) (H : Hp) (vs : List V) (Q : VK) (E : XK), Room cm k (A.deeper (envOfC qual scope s.heap.objs.size f cdv)) → sp vs H Q E →
      ∃ t, PSs (cxOf CX cm P w K mg base N qual scope f cdv A outer s H E) body t ∧ t { nx := fun _ H' => Q .non H', rt := Q } (start N vs) H) :
    FnOk P w K mg base CX cm (k + 1) f (PySem.W.fnOf name qual params body scope dV kV doc pm an cdv ct) ps sp := by
  refine ⟨len, fun A outer s H args us vs Q E hr e0 hb r hsp => ?_⟩
  have hl := len _ _ _ _ hsp
  have KX : K.In s.heap := e0.mod.kin.keeps fun b o e => (e0.bs b o e).1
  have lim : s.heap.NoLimit := e0.mod.nolimit.keeps fun b o e => (e0.bs b o e).1
  have hkind : ∀ y ∈ ps.zip us, scope.names.lookup y.1 = some .local ∨ (scope.names.lookup y.1 = some .cell ∧ ((cellsFrom (s.heap.objs.size + 1) scope.names []).lookup y.1).isSome = true) := fun ⟨n, v⟩ hy => by
    rcases S.par n (List.of_mem_zip hy).1 with q | q
    · exact .inl q
    · exact .inr ⟨q, PySem.W.cellsFrom_some _ _ _ (.inl q)⟩
  refine codeAny_call_function hr.depth (KX _ _ lk) rfl S.co S.gen rfl (PySem.W.codeRec_of KX hcd) (hb _ _ _ _ ?_)
  refine wpAny_newFunctionEnv_cells S.kind hkind fun env he s1 x => ?_
  subst he
  refine ⟨lim.keeps x.toInCall.keep, codeAny_func ?_⟩
  obtain ⟨t, ht, hq⟩ := hbody A outer s H vs Q E (hr.deeper _) hsp
  have I : Inv (cxOf CX cm P w K mg base N qual scope f cdv A outer s H E) [] (start N vs) H s1 := inv_start S hr.hd e0 hl r x
  refine wpAny_mono (ht [] s1 (start N vs) H _ I hq) (fun fl s' hs => ?_) fun e s' hs => hs
  have fin : ∀ {σ' : St} {H' : Hp} {v : V} {u : Value}, Inv (cxOf CX cm P w K mg base N qual scope f cdv A outer s H E) [] σ' H' s' → RelV v u → Q v H' → CE outer P w H s Q u s' :=
    fun {σ' H' v u} J rv q => ⟨v, H', J.os, J.bare, J.base, J.hok, rv, q⟩
  cases fl with
  | ret u =>
    obtain ⟨v, σ', H', J, rv, q⟩ := hs
    exact fin J rv q
  | next =>
    obtain ⟨σ', H', J, q⟩ := hs
    exact fin (v := V.non) (u := Value.none) J rfl q
  | brk =>
    obtain ⟨_, _, _, q⟩ := hs
    exact False.elim q
  | cont =>
    obtain ⟨_, _, _, q⟩ := hs
    exact False.elim q
end L2

namespace L2
open PySem PySem.Spec PyProof.Rows
section
variable {X : Cx} {x : Str} {p pos : Pos} {e : Expr} {es : List Expr} {t : TA} {id T : String} {r : List V → Hp → VK → Prop}

def tCB (r : List V → Hp → VK → Prop) (t : TA) : TE := fun σ H Q => t σ H fun vs H1 => r vs H1 Q
/-- f(e, ..), f a built-in function -/
theorem pe_callB (hc : CallR X (.builtin id) r) (hg : Gl X x) (hm : X.mg x = none) (hv : bootBuiltins x = some (.builtin id)) (ha : PA X (e :: es) t) (hn : x ≠ "__name__" := by decide) (hdb : (x == ("__debug__" : Str)) = false := by decide)
    (he : starEach (e :: es) X.env = (false, eval e X.env) :: starEach es X.env := by rfl) (hpl : (backTo pos (starEach es X.env)).any (·.1) = false := by rfl) : PE X (.Call (.Name x p) (e :: es) [] pos) (tCB r t) := by
  intro pins s σ H Q I h
  refine wpAny_Call_Name_kw (ld_blt I hg hm hv ?_ hn hdb)
  exact PyProof.Rows.callWith_builtin1 (thn (ha pos pins s σ H _ I h) fun us s1 ⟨vs, H1, I1, r1, q1⟩ => hc pins s1 σ H1 vs us Q I1 r1 q1) he hpl
end
end L2

namespace HT
open PySem PyProof.Rows

/-- t < u of tuples of ints -/
def lexLt : List Int → List Int → Bool
  | [], [] => false
  | [], _ :: _ => true
  | _ :: _, [] => false
  | x :: xs, y :: ys => if x = y then lexLt xs ys else decide (x < y)
section
open PySem.SeqAt
open PySem.AutoSeq1 (wpAny_loadPart')
open PySem.MeetsSeq PySem.MeetsSeq2 PySem.MeetsSeq3

end

section
variable {prog : Program} {w : World} {A : Around} {E : Value → Shared → Prop} {s : Shared}

/-- a slice's bound as a place among n (d where it is left out) -/
def sIx (n d : Nat) : Option Int → Nat
  | none => d
  | some v => if v < 0 then (v + (n : Int)).toNat else min v.toNat n
theorem sIx_nat (n d k : Nat) : sIx n d (some (k : Int)) = min k n := by
  show (if (k : Int) < 0 then ((k : Int) + (n : Int)).toNat else min (k : Int).toNat n) = min k n
  rw [if_neg (by omega), Int.toNat_natCast]
end
end HT

namespace L2
open PySem PySem.Spec PyProof.Rows

abbrev TO := St → Hp → (Option Int → Hp → Prop) → Prop
/-- a slice's part (left out, or an int) -/
def PO (X : Cx) (e : Option Expr) (t : TO) : Prop :=
  ∀ (pins : List (Addr × Obj)) (s : Shared) (σ : St) (H : Hp) (Q : Option Int → Hp → Prop), Inv X pins σ H s → t σ H Q →
    wpAny (model X.prog X.w) X.A (evalPart e X.env) (fun u s' => ∃ o H', Inv X pins σ H' s' ∧ IsPart u o ∧ Q o H') X.xe s
def tNoPart : TO := fun _ H Q => Q none H
def tPart (t : TE) : TO := fun σ H Q => t σ H fun x H1 => ∃ i, x = .int i ∧ Q (some i) H1

section
variable {X : Cx} {e : Expr} {te : TE} {lo hi : Option Expr} {tl th : TO} {pos p2 : Pos}

theorem po_none : PO X none tNoPart := by
  intro pins s σ H Q I h
  rw [evalPart_none]
  exact wpAny_pure ⟨none, H, I, .none, h⟩
theorem po_some (h : PE X e te) : PO X (some e) (tPart te) := by
  intro pins s σ H Q I hw
  rw [evalPart_some]
  refine thn (h pins s σ H _ I hw) fun u s1 ⟨x, H1, I1, r1, q1⟩ => ?_
  obtain ⟨i, rfl, q⟩ := q1
  obtain ⟨t, rfl⟩ := r1
  exact ⟨some i, H1, I1, .int i t, q⟩

/-- what a slice of a value is, by values: the slice object stands at sl -/
def SlR (X : Cx) (r : V → Option Int → Option Int → Hp → VK → Prop) : Prop :=
  ∀ (pins : List (Addr × Obj)) (s : Shared) (σ : St) (H : Hp) (x : V) (v vl vu : Value) (lo hi : Option Int) (sl : Addr) (Q : VK), Inv X pins σ H s → RelV x v → s.heap.IsSliceOf sl vl vu .none → IsPart vl lo → IsPart vu hi → r x lo hi H Q →
    ∃ T id, typeLookup (.type T) "__getitem__" = pure (some (.builtin id)) ∧ s.TypeIs v T ∧ wpAny (model X.prog X.w) X.A (getItem v (.ref sl)) (EP X pins σ Q) X.xe s
theorem SlR.or {r r' : V → Option Int → Option Int → Hp → VK → Prop} (h : SlR X r) (h' : SlR X r') : SlR X (fun x lo hi H Q => r x lo hi H Q ∨ r' x lo hi H Q) := by
  intro pins s σ H x v vl vu lo hi sl Q I rx hs pl pu q
  rcases q with q | q
  · exact h pins s σ H x v vl vu lo hi sl Q I rx hs pl pu q
  · exact h' pins s σ H x v vl vu lo hi sl Q I rx hs pl pu q
def tSl (r : V → Option Int → Option Int → Hp → VK → Prop) (te : TE) (tl th : TO) : TE := fun σ H Q => te σ H fun x H1 => tl σ H1 fun l H2 => th σ H2 fun u H3 => r x l u H3 Q
/-- a[lo:hi], any a -/
theorem pe_slice {r : V → Option Int → Option Int → Hp → VK → Prop} (hr : SlR X r) (he : PE X e te) (hl : PO X lo tl) (hu : PO X hi th) : PE X (.Subscript e (.Slice lo hi none p2) pos) (tSl r te tl th) := by
  intro pins s σ H Q I h
  refine Subscript_ (thn (he pins s σ H _ I h) fun v s1 ⟨x, H1, I1, r1, q1⟩ => ?_)
  refine wpAny_Slice (thn (hl pins s1 σ H1 _ I1 q1) fun vl s2 ⟨l, H2, I2, pl, q2⟩ => thn (hu pins s2 σ H2 _ I2 q2) fun vu s3 ⟨u, H3, I3, pu, q3⟩ => ?_)
  rw [evalPart_none]
  refine wpAny_pure ?_
  have I4 : Inv X pins σ H3 { s3 with heap := s3.heap.push { cls := .type "slice", data := .fields #[vl, vu, .none] } } := I3.kept (t' := s3.toks) fun b ob q => Heap.get?_push_of_some _ q
  obtain ⟨T, id, hT, ht, hg⟩ := hr pins { s3 with heap := s3.heap.push { cls := .type "slice", data := .fields #[vl, vu, .none] } } σ H3 x v vl vu l u s3.heap.objs.size Q I4 r1 (Heap.IsSliceOf.new ..) pl pu q3
  show wpAny (model X.prog X.w) X.A (subscriptTail e (.Slice lo hi none p2) v (.ref s3.heap.objs.size)) (EP X pins σ Q) X.xe { s3 with heap := s3.heap.push { cls := .type "slice", data := .fields #[vl, vu, .none] } }
  exact tail_any (ops := [.ref s3.heap.objs.size, v]) ht hT hg (by with_unfolding_all rfl)

/-- the items of xs[lo:hi] -/
def cutV (xs : List V) (lo hi : Option Int) : List V := (xs.drop (HT.sIx xs.length 0 lo)).take (HT.sIx xs.length xs.length hi - HT.sIx xs.length 0 lo)
theorem cutV_length (xs : List V) (lo hi : Option Int) : (cutV xs lo hi).length ≤ xs.length := by
  unfold cutV
  rw [List.length_take, List.length_drop]
  omega
/-- t[lo:hi], not the whole of it (the whole would be t itself) -/
def rSlT (K : PySem.W.Frag) : V → Option Int → Option Int → Hp → VK → Prop := fun x lo hi H Q => ∃ a xs, x = .ref a ∧ SqT K H a xs ∧
  ¬ (HT.sIx xs.length 0 lo = 0 ∧ HT.sIx xs.length xs.length hi = xs.length) ∧ ∀ p, H p = none → Q (.ref p) (upd H p (.tup (cutV xs lo hi)))
def rLtT (K : PySem.W.Frag) : R2 := fun x y H Q => ∃ a b ns ms, x = .ref a ∧ y = .ref b ∧ SqT K H a (ns.map V.int) ∧ SqT K H b (ms.map V.int) ∧ Q (.bl (HT.lexLt ns ms)) H
/-- t + u, t not empty: u empty gives t itself -/
def rCatT (K : PySem.W.Frag) : R2 := fun x y H Q => ∃ a b xs ys, x = .ref a ∧ y = .ref b ∧ SqT K H a xs ∧ SqT K H b ys ∧ xs ≠ [] ∧ xs.length + ys.length ≤ sizeLine ∧
  (ys = [] → Q (.ref a) H) ∧ (ys ≠ [] → ∀ p, H p = none → Q (.ref p) (upd H p (.tup (xs ++ ys))))
end
end L2

namespace L2
open PySem PySem.Spec PyProof.Rows

/-- the place that an index of any sign means -/
def ixN (n : Nat) (i : Int) : Option Nat := if 0 ≤ i then (if i < n then some i.toNat else none) else if -(n : Int) ≤ i then some (i + n).toNat else none
def atI {α : Type} (xs : List α) (i : Int) : Option α := (ixN xs.length i).bind fun j => xs[j]?
theorem ixN_seq {n : Nat} {i : Int} {j : Nat} (h : ixN n i = some j) : seqIndex? i n = some j ∧ j < n ∧ -(n : Int) ≤ i ∧ i < n := by
  unfold ixN at h
  by_cases h0 : 0 ≤ i
  · rw [if_pos h0] at h
    by_cases h1 : i < n
    · rw [if_pos h1] at h
      have e : i.toNat = j := Option.some.inj h
      exact ⟨by rw [seqIndex_of h0 h1, e], by omega, by omega, h1⟩
    · rw [if_neg h1] at h; cases h
  · rw [if_neg h0] at h
    by_cases h1 : -(n : Int) ≤ i
    · rw [if_pos h1] at h
      have e : (i + n).toNat = j := Option.some.inj h
      exact ⟨by rw [seqIndex_neg (by omega) h1, e], by omega, h1, by omega⟩
    · rw [if_neg h1] at h; cases h
theorem atI_get {α : Type} {xs : List α} {i : Int} {v : α} (h : atI xs i = some v) : ∃ j, seqIndex? i xs.length = some j ∧ xs[j]? = some v ∧ j < xs.length ∧ -(xs.length : Int) ≤ i ∧ i < xs.length := by
  unfold atI at h
  cases e : ixN xs.length i with
  | none => rw [e] at h; cases h
  | some j =>
    rw [e] at h
    obtain ⟨h1, h2, h3, h4⟩ := ixN_seq e
    exact ⟨j, h1, h, h2, h3, h4⟩
theorem atI_nat {α : Type} {xs : List α} {j : Nat} {v : α} (h : xs[j]? = some v) : atI xs (j : Int) = some v := by
  have hj : j < xs.length := (List.getElem?_eq_some_iff.mp h).1
  have e : ixN xs.length (j : Int) = some j := by
    unfold ixN
    rw [if_pos (by omega), if_pos (by omega)]; simp
  unfold atI; rw [e]; exact h
/-- what stands as an index of a plain subscript -/
def PlainIx (b : Expr) : Prop := ∀ o i, subscripted b false o i = operate [o, i] (getItem o i)
/-- a subscript by values -/
def IxR (X : Cx) (r : R2) : Prop :=
  ∀ (value slice : Expr) (pins : List (Addr × Obj)) (s : Shared) (σ : St) (H : Hp) (x y : V) (v u : Value) (Q : VK), Inv X pins σ H s → RelV x v → RelV y u → r x y H Q →
    subscripted slice false v u = operate [v, u] (getItem v u) → wpAny (model X.prog X.w) X.A (subscriptTail value slice v u) (EP X pins σ Q) X.xe s
/-- a call of a builtin's method by values: the receiver, the arguments -/
def MtR (X : Cx) (id : String) (r : V → List V → Hp → VK → Prop) : Prop :=
  ∀ (pins : List (Addr × Obj)) (s : Shared) (σ : St) (H : Hp) (x : V) (xs : List V) (v : Value) (us : List Value) (Q : VK), Inv X pins σ H s → RelV x v → Vals xs us → r x xs H Q →
    wpAny (model X.prog X.w) X.A (call (.builtin id) (v :: us)) (EP X pins σ Q) X.xe s
section
variable {X : Cx} {a b : Expr} {ta tb : TE} {pos : Pos}
theorem IxR.or {r r' : R2} (h : IxR X r) (h' : IxR X r') : IxR X (fun x y H Q => r x y H Q ∨ r' x y H Q) := by
  intro value slice pins s σ H x y v u Q I rx ry q hs
  rcases q with q | q
  · exact h value slice pins s σ H x y v u Q I rx ry q hs
  · exact h' value slice pins s σ H x y v u Q I rx ry q hs
theorem MtR.or {id : String} {r r' : V → List V → Hp → VK → Prop} (h : MtR X id r) (h' : MtR X id r') : MtR X id (fun x xs H Q => r x xs H Q ∨ r' x xs H Q) := by
  intro pins s σ H x xs v us Q I rx rs q
  rcases q with q | q
  · exact h pins s σ H x xs v us Q I rx rs q
  · exact h' pins s σ H x xs v us Q I rx rs q
/-- a[b] -/
theorem pe_ix {r : R2} (hr : IxR X r) (ha : PE X a ta) (hb : PE X b tb) (hs : PlainIx b) : PE X (.Subscript a b pos) (tOp r ta tb) := by
  intro pins s σ H Q I h
  exact Subscript_ (binT ha hb I h fun v u s2 x y H2 I2 rx ry q => hr a b pins s2 σ H2 x y v u Q I2 rx ry q (hs _ _))

def rIxL (K : PySem.W.Frag) : R2 := fun x y H Q => ∃ p xs i v, x = .ref p ∧ y = .int i ∧ SqL K H p xs ∧ atI xs i = some v ∧ Q v H
def rIxT (K : PySem.W.Frag) : R2 := fun x y H Q => ∃ p xs i v, x = .ref p ∧ y = .int i ∧ SqT K H p xs ∧ atI xs i = some v ∧ Q v H
def rIxS : R2 := fun x y H Q => ∃ z i c, x = .str z ∧ y = .int i ∧ z.length ≤ sizeLine ∧ atI z.cps.toList i = some c ∧ Q (.str ⟨#[c]⟩) H
theorem ix_list : IxR X (rIxL X.K) := by
  intro value slice pins s σ H x y v u Q I rx ry h hs
  obtain ⟨p, xs, i, z, rfl, rfl, hq, he, q⟩ := h
  cases rx
  obtain ⟨t, rfl⟩ := ry
  obtain ⟨its, r, pl, hz⟩ := I.list hq
  obtain ⟨j, h1, h2, h3, h4, h5⟩ := atI_get he
  obtain ⟨w, ew, rw'⟩ := r.get h2
  have hl := r.length
  have hn := line63
  have fin : EP X pins σ Q w s := ⟨z, H, I, rw', q⟩
  by_cases h0 : 0 ≤ i
  · have hj : i.toNat = j := by
      rw [seqIndex_of h0 h5] at h1
      exact Option.some.inj h1
    exact item_listR pl.isList h0 (by omega) (by rw [hj]; simpa using ew) fin hs
  · have hj : (i + (its.toArray.size : Int)).toNat = j := by
      rw [seqIndex_neg (by omega) h4] at h1
      rw [List.size_toArray, ← hl]
      exact Option.some.inj h1
    exact subscriptTail_builtinR (x := w) pl.isList.typeIs slot_list_getitem.lookup
      (wpAny_getItem_list_neg (Q := fun r s' => r = w ∧ EP X pins σ Q r s') pl.isList (by omega) (by rw [List.size_toArray] <;> omega) (by omega) (by rw [hj]; simpa using ew) ⟨rfl, fin⟩) hs
theorem ix_tup : IxR X (rIxT X.K) := by
  intro value slice pins s σ H x y v u Q I rx ry h hs
  obtain ⟨p, xs, i, z, rfl, rfl, hq, he, q⟩ := h
  cases rx
  obtain ⟨t, rfl⟩ := ry
  obtain ⟨its, r, pl, hz⟩ := I.tuple hq
  obtain ⟨j, h1, h2, h3, h4, h5⟩ := atI_get he
  obtain ⟨w, ew, rw'⟩ := r.get h2
  have hl := r.length
  have hn := line63
  have fin : EP X pins σ Q w s := ⟨z, H, I, rw', q⟩
  exact subscriptTail_builtinR (x := w) pl.typeIs slot_tuple_getitem.lookup
    (getItem_tuple (j := j) (Q := fun r s' => r = w ∧ EP X pins σ Q r s') pl (by omega) (by omega) (by rw [List.size_toArray, ← hl]; exact h1) (by simpa using ew) ⟨rfl, fin⟩) hs
theorem ix_str : IxR X rIxS := by
  intro value slice pins s σ H x y v u Q I rx ry h hs
  obtain ⟨z, i, c, rfl, rfl, hz, he, q⟩ := h
  obtain ⟨t, rfl⟩ := rx
  obtain ⟨t', rfl⟩ := ry
  obtain ⟨j, h1, h2, h3, h4, h5⟩ := atI_get he
  have hl : z.cps.toList.length = z.length := by simp [Str.length]
  rw [hl] at h1 h4 h5
  have hn := line63
  exact tail_any (typeIs_str s z t) slot_str_getitem.lookup (getItem_str (c := c) (by
    have e1 : decide (i < -(2 ^ 63 : Int)) = false := decide_eq_false (by omega)
    have e2 : decide (i ≥ 2 ^ 63) = false := decide_eq_false (by omega)
    rw [e1, e2, Bool.or_false]) (by rw [h1]; simpa using h2) ⟨.str ⟨#[c]⟩, H, I.tok _, ⟨_, rfl⟩, q⟩) hs
/-- list, tuple or str -/
def rIx (K : PySem.W.Frag) : R2 := fun x y H Q => rIxL K x y H Q ∨ rIxT K x y H Q ∨ rIxS x y H Q
theorem ix_seq : IxR X (rIx X.K) := ix_list.or (ix_tup.or ix_str)

/-- the list's object behind a store -/
theorem mapSeq_set (its : List Value) (n j : Nat) (u : Value) : Obj.mapSeq (·.setIfInBounds j u) { cls := .type "list", data := .seq its.toArray n } = { cls := .type "list", data := .seq (its.set j u).toArray n } := by
  simp [Obj.mapSeq]
theorem Inv.lst {pins : List (Addr × Obj)} {σ : St} {H : Hp} {s : Shared} {p : Addr} {xs : List V} (I : Inv X pins σ H s) (h : H p = some (.lst xs)) :
    ∃ (its : List Value) (n : Nat), Vals xs its ∧ s.heap.get? p = some { cls := .type "list", data := .seq its.toArray n } ∧ xs.length ≤ sizeLine := by
  obtain ⟨z, its, n, r, e⟩ := I.hok p _ h
  exact ⟨its, n, r, e, z⟩
/-- the list at p is written by an update of its object -/
theorem Inv.lstUpd {pins : List (Addr × Obj)} {σ : St} {H : Hp} {s : Shared} {p : Addr} {xs ys : List V} {its its' : List Value} {n n' : Nat} {f : Obj → Obj} (I : Inv X pins σ H s) (h : H p = some (.lst xs))
    (ho : s.heap.get? p = some { cls := .type "list", data := .seq its.toArray n }) (hf : f { cls := .type "list", data := .seq its.toArray n } = { cls := .type "list", data := .seq its'.toArray n' }) (r : Vals ys its') (hz : ys.length ≤ sizeLine) (t : Nat) :
    Inv X pins σ (upd H p (.lst ys)) { s with heap := s.heap.update p f, toks := t } := by
  have e : (s.heap.update p f).get? p = some { cls := .type "list", data := .seq its'.toArray n' } := by
    rw [Heap.get?_update_self f ho (by rw [hf] <;> rfl), hf]
  refine I.write (x := p) (e := p) (by rw [h]; trivial) (.inl rfl) (fun b u hb q => (Heap.get?_update_other _ _ (Ne.symm hb)).trans q) ⟨_, e⟩ ?_
  exact ⟨hz, its', n', r, e⟩
def rSetL : V → V → V → Hp → (Hp → Prop) → Prop := fun o i v H Q => ∃ p xs k j, o = .ref p ∧ i = .int k ∧ H p = some (.lst xs) ∧ ixN xs.length k = some j ∧ Q (upd H p (.lst (xs.set j v)))
theorem set_list : PSet X rSetL := by
  intro pins s σ H o i v ov iv u Q I ro ri rv h
  obtain ⟨p, xs, k, j, rfl, rfl, hp, hj, q⟩ := h
  cases ro
  obtain ⟨t, rfl⟩ := ri
  obtain ⟨its, n, r, ho, hz⟩ := I.lst hp
  obtain ⟨h1, h2, h3, h4⟩ := ixN_seq hj
  have hl := r.length
  have hn := line63
  have I' : Inv X pins σ (upd H p (.lst (xs.set j v))) { s with heap := s.heap.update p (Obj.mapSeq (·.setIfInBounds j u)) } :=
    I.lstUpd hp ho (mapSeq_set its n j u) (r.set rv j) (by rw [List.length_set]; exact hz) s.toks
  by_cases h0 : 0 ≤ k
  · have hk : k.toNat = j := by
      rw [seqIndex_of h0 h4] at h1
      exact Option.some.inj h1
    exact PySem.W.ki_setAt ho h0 (by omega) (by rw [List.size_toArray, ← hl]; exact h4) (by rw [hk]; exact ⟨_, I', q⟩)
  · have hk : (k + (its.toArray.size : Int)).toNat = j := by
      rw [seqIndex_neg (by omega) h3] at h1
      rw [List.size_toArray, ← hl]
      exact Option.some.inj h1
    exact PySem.W.ki_setBack ho (by omega) (by rw [List.size_toArray, ← hl]; exact h3) (by omega) (by rw [hk]; exact ⟨_, I', q⟩)

theorem slice_bounds (lo hi : Option Int) (n : Nat) : (sliceBounds lo hi none n).1 = ((HT.sIx n 0 lo : Nat) : Int) ∧ (sliceBounds lo hi none n).2.1 = ((HT.sIx n n hi : Nat) : Int) ∧ (sliceBounds lo hi none n).2.2 = 1 := by
  refine ⟨?_, ?_, rfl⟩
  · cases lo with
    | none => simp [sliceBounds, HT.sIx]
    | some i =>
      simp only [sliceBounds, HT.sIx, Option.getD_none, show (1 : Int) > 0 by decide, if_true]
      by_cases h : i < 0
      · simp only [h, if_true] <;> omega
      · simp only [h, if_false] <;> omega
  · cases hi with
    | none => simp [sliceBounds, HT.sIx]
    | some i =>
      simp only [sliceBounds, HT.sIx, Option.getD_none, show (1 : Int) > 0 by decide, if_true]
      by_cases h : i < 0
      · simp only [h, if_true] <;> omega
      · simp only [h, if_false] <;> omega
theorem slicePick_cut (its : List Value) (lo hi : Option Int) : slicePick its.toArray lo hi none = ((its.drop (HT.sIx its.length 0 lo)).take (HT.sIx its.length its.length hi - HT.sIx its.length 0 lo)).toArray := by
  obtain ⟨h1, h2, h3⟩ := slice_bounds lo hi its.toArray.size
  unfold slicePick
  rw [h1, h2, h3]
  simp only [sliceRange_one, pick_run, List.size_toArray] <;> rfl
/-- xs[lo:hi] of a list: a new list -/
def rSlL (K : PySem.W.Frag) : V → Option Int → Option Int → Hp → VK → Prop := fun x lo hi H Q => ∃ a xs, x = .ref a ∧ SqL K H a xs ∧ ∀ p, H p = none → Q (.ref p) (upd H p (.lst (cutV xs lo hi)))
theorem sl_list : SlR X (rSlL X.K) := by
  intro pins s σ H x v vl vu lo hi sl Q I rx hs pl pu h
  obtain ⟨a, xs, rfl, hx, q⟩ := h
  cases rx
  obtain ⟨its, r, ht, hz⟩ := I.list hx
  have hlen := r.length
  refine ⟨"list", _, slot_list_getitem.lookup, ht.isList.typeIs, ?_⟩
  refine wpAny_getItem_list_slice ht.isList hs pl pu .none (by simp) ?_ (by rw [List.size_toArray] <;> omega)
  rw [slicePick_cut, ← hlen]
  refine ⟨.ref s.heap.objs.size, _, I.laid (t' := s.toks) (o := .lst (cutV xs lo hi)) (fun b ob q => Heap.get?_push_of_some _ q) (Nat.le_refl _) ?_, rfl, q _ (I.hok.fresh (Nat.le_refl _))⟩
  exact ⟨Nat.le_trans (cutV_length xs lo hi) hz, _, 0, (r.drop (HT.sIx xs.length 0 lo)).take (HT.sIx xs.length xs.length hi - HT.sIx xs.length 0 lo), Heap.get?_push_size _ rfl⟩

def flatV : V → Bool
  | .non => true
  | .bl _ => true
  | .int _ => true
  | .str _ => true
  | _ => false
/-- == of flat values -/
def eqV : V → V → Bool
  | .non, .non => true
  | .bl a, .bl b => a == b
  | .bl a, .int b => (if a then 1 else 0) == b
  | .int a, .bl b => a == (if b then 1 else 0)
  | .int a, .int b => a == b
  | .str a, .str b => a == b
  | _, _ => false
/-- the items' answers, read off the values (a value's own answer does not lean on its token) -/
def eqU (x : V) (u : Value) : Bool := match u with
  | .none => eqV .non x
  | .bool b => eqV (.bl b) x
  | .int i _ => eqV (.int i) x
  | .str z _ => eqV (.str z) x
  | _ => false
def inV (x : V) (xs : List V) : Bool := xs.any fun y => eqV y x
/-- x in a list or tuple of flat items -/
def rIn (K : PySem.W.Frag) (neg : Bool) : R2 := fun x y H Q => ∃ p xs, y = .ref p ∧ (SqL K H p xs ∨ SqT K H p xs) ∧ flatV x = true ∧ xs.all flatV = true ∧ Q (.bl (if neg then !inV x xs else inV x xs)) H
theorem call_len_seq : CallR X (.builtin "len") (fun xs H Q => ∃ p ys, xs = [.ref p] ∧ (SqL X.K H p ys ∨ SqT X.K H p ys) ∧ Q (.int ys.length) H) := by
  intro pins s σ H xs us Q I r h
  obtain ⟨p, ys, rfl, hq, q⟩ := h
  obtain ⟨u, rfl, rx⟩ := vals1 r
  cases rx
  have hn := line63
  rcases hq with hq | hq
  · obtain ⟨its, r', pl, hz⟩ := I.list hq
    have hlen := r'.length
    exact Calls.call_len_list pl.isList (by simp only [List.size_toArray] <;> omega) ⟨.int ys.length, H, I.tok _, ⟨s.toks + 1, by rw [List.size_toArray, hlen]⟩, q⟩
  · obtain ⟨its, r', pl, hz⟩ := I.tuple hq
    have hlen := r'.length
    exact len_tuple pl (by simp only [List.size_toArray] <;> omega) ⟨.int ys.length, H, I.tok _, ⟨s.toks + 1, by rw [List.size_toArray, hlen]⟩, q⟩
theorem CallR.or {f : Value} {r r' : List V → Hp → VK → Prop} (h : CallR X f r) (h' : CallR X f r') : CallR X f (fun xs H Q => r xs H Q ∨ r' xs H Q) := by
  intro pins s σ H xs us Q I rs q
  rcases q with q | q
  · exact h pins s σ H xs us Q I rs q
  · exact h' pins s σ H xs us Q I rs q
/-- the value is of that builtin type -/
def tyV (K : PySem.W.Frag) (T : String) (x : V) (H : Hp) : Prop := match x with
  | .str _ => T = "str"
  | .int _ => T = "int"
  | .ref p => (T = "list" ∧ ∃ xs, SqL K H p xs) ∨ (T = "tuple" ∧ ∃ o, K.lookup p = some o ∧ o.cls = .type "tuple" ∧ o.dict = none) ∨
      (T = "dict" ∧ ((∃ kvs, H p = some (.dK kvs)) ∨ ∃ kvs, H p = some (.dT kvs))) ∨ (T = "set" ∧ ∃ S n, H p = some (.set S n))
  | _ => False
theorem tyV_is {pins : List (Addr × Obj)} {σ : St} {H : Hp} {s : Shared} {T : String} {x : V} {v : Value} (I : Inv X pins σ H s) (r : RelV x v) (ty : tyV X.K T x H) :
    s.TypeIs v T ∧ ∀ a, v = .ref a → ∃ ob, s.heap.get? a = some ob ∧ ob.dict = none := by
  cases x with
  | str z =>
    obtain ⟨t, rfl⟩ := r
    cases (show T = "str" from ty)
    exact ⟨typeIs_str s z t, fun _ e => nomatch e⟩
  | int i =>
    obtain ⟨t, rfl⟩ := r
    cases (show T = "int" from ty)
    exact ⟨typeIs_int s i t, fun _ e => nomatch e⟩
  | ref p =>
    cases r
    rcases ty with ⟨rfl, xs, hq⟩ | ⟨rfl, o, hk, hc, hd⟩ | ⟨rfl, hk⟩ | ⟨rfl, S, n, hk⟩
    · obtain ⟨its, _, pl, _⟩ := I.list hq
      refine ⟨pl.isList.typeIs, fun a e => ?_⟩
      cases e
      obtain ⟨o, n, e, c, hd, _⟩ := pl
      exact ⟨o, e, hd⟩
    · refine ⟨⟨o, I.kIn p o hk, hc⟩, fun a e => ?_⟩
      cases e
      exact ⟨o, I.kIn _ o hk, hd⟩
    · have z : ∃ o, s.heap.get? p = some o ∧ o.ExactDict := by
        rcases hk with ⟨kvs, hk⟩ | ⟨kvs, hk⟩
        · obtain ⟨_, _, _, _, o, _, _, e, ex, _⟩ := I.hok p _ hk
          exact ⟨o, e, ex⟩
        · obtain ⟨_, _, _, _, o, _, _, e, ex, _⟩ := I.hok p _ hk
          exact ⟨o, e, ex⟩
      obtain ⟨o, e, ex⟩ := z
      refine ⟨⟨o, e, ex.1⟩, fun a e2 => ?_⟩
      cases e2
      exact ⟨o, e, ex.2.1⟩
    · obtain ⟨o, _, _, _, e, ex, _⟩ := I.hok p _ hk
      refine ⟨⟨o, e, ex.1⟩, fun a e2 => ?_⟩
      cases e2
      exact ⟨o, e, ex.2.1⟩
  | _ => exact False.elim ty
def tBM0 (K : PySem.W.Frag) (T : String) (r : V → List V → Hp → VK → Prop) (to : TE) : TE := fun σ H Q => to σ H fun x H1 => tyV K T x H1 ∧ r x [] H1 Q
def tBM (K : PySem.W.Frag) (T : String) (r : V → List V → Hp → VK → Prop) (to : TE) (t : TA) : TE := fun σ H Q => to σ H fun x H1 => tyV K T x H1 ∧ t σ H1 fun xs H2 => r x xs H2 Q
variable {o e : Expr} {es : List Expr} {to : TE} {t : TA} {name : Str} {apos cpos : Pos} {T id : String} {r : V → List V → Hp → VK → Prop}
theorem pe_bm (pa : PlainAttrs T) (slot : Slot T name id) (hty : typeOf (.builtin id) = pure (.type "method_descriptor")) (hm : MtR X id r) (ho : PE X o to) (ha : PA X (e :: es) t)
    (hbase : attributeBase o name X.env (eval o X.env) = eval o X.env := by rfl)
    (hfew : ((backTo cpos (starEach (e :: es) X.env)).all (fun x => !x.1) && (backToKw cpos (keywordEach [] X.env)).all (fun x => x.1.isSome)
      && decide ((e :: es).length + ([] : List Keyword).length + (if ([] : List Keyword).isEmpty then 0 else 1) < 30)) = true := by rfl)
    (hline : (apos.endLine == cpos.line) = true := by rfl) (hs : starEach (e :: es) X.env = (false, eval e X.env) :: starEach es X.env := by rfl) (hplain : (backTo cpos (starEach es X.env)).any (·.1) = false := by rfl) :
    PE X (.Call (.Attribute o name apos) (e :: es) [] cpos) (tBM X.K T r to t) := by
  intro pins s σ H Q I h
  refine wpAny_Call_method_late hbase hfew hline rfl (thn (ho pins s σ H _ I h) fun v s1 ⟨x, H1, I1, r1, ty, q1⟩ => ?_)
  obtain ⟨h1, h2⟩ := tyV_is I1 r1 ty
  refine ⟨T, id, pa, slot, hty, h1, h2, ?_⟩
  have hA := ha cpos pins s1 σ H1 _ I1 q1
  rw [hs] at hA ⊢
  refine Calls.callWith_builtin (by show (false || (backTo cpos (starEach es X.env)).any (·.1)) = false; rw [hplain] <;> rfl) (Calls.evalArgs_plain ?_)
  exact thn hA fun us s2 ⟨vs, H2, I2, r2, q2⟩ => hm pins s2 σ H2 x vs v us Q I2 r1 r2 q2
/- xs.append(e), list.index on a module's tuple .. are MtR facts of 06m -/
end
end L2

namespace L2
open PySem PySem.Spec PyProof.Rows

def MtM (X : Cx) (id : String) (r : V → List V → Hp → VK → Prop) : Prop :=
  ∀ (pins : List (Addr × Obj)) (s : Shared) (σ : St) (H : Hp) (x : V) (xs : List V) (v : Value) (us : List Value) (Q : VK), Inv X pins σ H s → RelV x v → Vals xs us → r x xs H Q →
    wpAny (model X.prog X.w) X.A (call (.builtin id) (v :: us)) (EP X pins σ Q) X.xe s

theorem Vals.one : ∀ {x : V} {us : List Value}, Vals [x] us → ∃ u, us = [u] ∧ RelV x u
  | _, _, .cons r .nil => ⟨_, rfl, r⟩
theorem Vals.two : ∀ {x y : V} {us : List Value}, Vals [x, y] us → ∃ u v, us = [u, v] ∧ RelV x u ∧ RelV y v
  | _, _, _, .cons r (.cons q .nil) => ⟨_, _, rfl, r, q⟩
theorem Vals.zero : ∀ {us : List Value}, Vals [] us → us = []
  | _, .nil => rfl
theorem Vals.dropLast {xs : List V} {us : List Value} (h : Vals xs us) : Vals xs.dropLast us.dropLast := by
  induction h with
  | nil => exact .nil
  | cons r t ih =>
    cases t with
    | nil => exact .nil
    | cons q t' => exact .cons r ih
theorem Vals.eraseIdx : ∀ {xs : List V} {us : List Value} (i : Nat), Vals xs us → Vals (xs.eraseIdx i) (us.eraseIdx i)
  | _, _, _, .nil => .nil
  | _, _, 0, .cons _ t => t
  | _, _, i + 1, .cons r t => .cons r (Vals.eraseIdx i t)
theorem Vals.reverse {xs : List V} {us : List Value} (h : Vals xs us) : Vals xs.reverse us.reverse := by
  induction h with
  | nil => exact .nil
  | cons r t ih => rw [List.reverse_cons, List.reverse_cons]; exact Vals.append ih (.cons r .nil)
section
variable {X : Cx} {pins : List (Addr × Obj)} {σ : St} {H : Hp} {s : Shared} {l b : Addr} {xs ys zs : List V}

theorem Inv.lset {its its' : List Value} {n : Nat} {f : Array Value → Array Value} {t' : Nat} (I : Inv X pins σ H s) (hH : H l = some (.lst xs))
    (e : s.heap.get? l = some { cls := .type "list", data := .seq its.toArray n }) (hf : f its.toArray = its'.toArray) (hv : Vals ys its') (hz : ys.length ≤ sizeLine) :
    Inv X pins σ (upd H l (.lst ys)) { s with heap := s.heap.update l (Obj.mapSeq f), toks := t' } := by
  have q := PySem.IsL.update e f
  rw [hf] at q
  refine I.write (x := l) (e := l) (by rw [hH]; exact trivial) (.inl rfl) (fun b' u hb hu => (Heap.get?_update_other s.heap (Obj.mapSeq f) (Ne.symm hb)).trans hu) ⟨_, q⟩ ?_
  exact ⟨hz, its', _, hv, q⟩
theorem Inv.lnew {its : List Value} {t' : Nat} (I : Inv X pins σ H s) (hv : Vals ys its) (hz : ys.length ≤ sizeLine) :
    Inv X pins σ (upd H s.heap.objs.size (.lst ys)) { s with heap := s.heap.push { cls := .type "list", data := .seq its.toArray }, toks := t' } :=
  I.laid (fun _ _ q => Heap.get?_push_of_some _ q) (Nat.le_refl _) ⟨hz, its, 0, hv, Heap.get?_push_size _ rfl⟩
theorem Inv.fresh (I : Inv X pins σ H s) : H s.heap.objs.size = none := I.hok.fresh (Nat.le_refl _)
theorem Inv.lstM (I : Inv X pins σ H s) (hH : H l = some (.lst xs)) : xs.length ≤ sizeLine ∧ ∃ (its : List Value) (n : Nat), Vals xs its ∧ xs.length = its.length ∧ s.heap.get? l = some { cls := .type "list", data := .seq its.toArray n } := by
  obtain ⟨z, its, n, r, e⟩ := I.hok l _ hH
  exact ⟨z, its, n, r, r.length, e⟩

end

section
variable {X : Cx}

def rAppend : V → List V → Hp → VK → Prop := fun x vs H Q => ∃ l xs y, x = .ref l ∧ vs = [y] ∧ H l = some (.lst xs) ∧ xs.length < sizeLine ∧ Q .non (upd H l (.lst (xs ++ [y])))
theorem mt_append : MtM X "list.append" rAppend := by
  intro pins s σ H x vs v us Q I rx rv h
  obtain ⟨l, xs, y, rfl, rfl, hH, hz, q⟩ := h
  cases rx
  obtain ⟨u, rfl, ru⟩ := rv.one
  obtain ⟨z, its, n, r, hl, e⟩ := I.lstM hH
  refine call_meets F.slot_list_append ⟨_, e, rfl⟩ F.entry_list_append (F.args_list_append_2 _ _) (PySem.list_append l its.toArray n u (by rw [List.size_toArray]; omega)) ⟨e, ?_⟩
  refine ⟨.non, _, I.lset (its' := its ++ [u]) hH e (by simp) (r.append (.cons ru .nil)) ?_, rfl, q⟩
  rw [List.length_append, List.length_singleton]
  omega

def rExtend : V → List V → Hp → VK → Prop := fun x vs H Q => ∃ l b xs zs, x = .ref l ∧ vs = [.ref b] ∧ H l = some (.lst xs) ∧ H b = some (.lst zs) ∧ xs.length + zs.length ≤ sizeLine ∧ Q .non (upd H l (.lst (xs ++ zs)))
def rPop : V → List V → Hp → VK → Prop := fun x vs H Q => ∃ l xs y, x = .ref l ∧ vs = [] ∧ H l = some (.lst xs) ∧ xs[xs.length - 1]? = some y ∧ Q y (upd H l (.lst xs.dropLast))
def rPopAt : V → List V → Hp → VK → Prop := fun x vs H Q => ∃ l xs i k y, x = .ref l ∧ vs = [.int i] ∧ H l = some (.lst xs) ∧ -(2 ^ 63) ≤ i ∧ i < 2 ^ 63 ∧ seqIndex? i xs.length = some k ∧ xs[k]? = some y ∧ Q y (upd H l (.lst (xs.eraseIdx k)))
def rReverse : V → List V → Hp → VK → Prop := fun x vs H Q => ∃ l xs, x = .ref l ∧ vs = [] ∧ H l = some (.lst xs) ∧ Q .non (upd H l (.lst xs.reverse))
def rClear : V → List V → Hp → VK → Prop := fun x vs H Q => ∃ l xs, x = .ref l ∧ vs = [] ∧ H l = some (.lst xs) ∧ Q .non (upd H l (.lst []))
def rCat : R2 := fun x y H Q => ∃ l b xs zs, x = .ref l ∧ y = .ref b ∧ H l = some (.lst xs) ∧ H b = some (.lst zs) ∧ xs.length + zs.length ≤ sizeLine ∧ ∀ p, H p = none → Q (.ref p) (upd H p (.lst (xs ++ zs)))
theorem op_cat : OpR X (binaryOp .Add) rCat := by
  intro pins s σ H x y v u Q I rx ry h
  obtain ⟨l, b, xs, zs, rfl, rfl, hH, hB, hz, q⟩ := h
  cases rx
  cases ry
  obtain ⟨z, its, n, r, hl, e⟩ := I.lstM hH
  obtain ⟨z2, its2, n2, r2, hl2, e2⟩ := I.lstM hB
  refine PySem.P.add_list e e2 ?_ (by rw [List.size_toArray, List.size_toArray]; omega)
  have ea : its.toArray ++ its2.toArray = (its ++ its2).toArray := by simp
  rw [ea]
  exact ⟨.ref _, _, I.lnew (t' := s.toks) (r.append r2) (by rw [List.length_append]; omega), rfl, q _ I.fresh⟩
/-- a list times an int (a negative one is nothing) -/
def rRep : R2 := fun x y H Q => ∃ l k xs, x = .ref l ∧ y = .int k ∧ H l = some (.lst xs) ∧ -(2 ^ 63) ≤ k ∧ k < 2 ^ 63 ∧ xs.length * k.toNat ≤ sizeLine ∧
  ∀ p, H p = none → Q (.ref p) (upd H p (.lst (List.replicate k.toNat xs).flatten))
end

section
variable {prog : Program} {w : World} {A : Around} {E : Value → Shared → Prop} {s : Shared}
end

section
variable {X : Cx}
end
end L2

namespace L2
open PySem PySem.Spec PyProof.Rows

section
variable {κ : Type} [DecidableEq κ]
def valV (kvs : List (κ × V)) (k : κ) : Option V := (kvs.find? fun kv => decide (kv.1 = k)).map (·.2)
/-- in its place, or at the end -/
def putK (kvs : List (κ × V)) (k : κ) (v : V) : List (κ × V) :=
  if (kvs.any fun kv => decide (kv.1 = k)) = true then kvs.map (fun kv => if kv.1 = k then (kv.1, v) else kv) else kvs ++ [(k, v)]
def dropK (kvs : List (κ × V)) (k : κ) : List (κ × V) := kvs.filter fun kv => decide (kv.1 ≠ k)

theorem valV_pos {p : κ × V} {r : List (κ × V)} {k : κ} (e : p.1 = k) : valV (p :: r) k = some p.2 := by simp [valV, List.find?_cons, e]
theorem valV_neg {p : κ × V} {r : List (κ × V)} {k : κ} (e : ¬ p.1 = k) : valV (p :: r) k = valV r k := by simp [valV, List.find?_cons, e]
theorem valV_any (k : κ) : ∀ kvs : List (κ × V), (kvs.any fun kv => decide (kv.1 = k)) = (valV kvs k).isSome
  | [] => rfl
  | p :: r => by
    rw [List.any_cons]
    by_cases e : p.1 = k
    · simp only [valV_pos e, decide_eq_true e, Bool.true_or, Option.isSome_some]
    · rw [valV_neg e, decide_eq_false e, Bool.false_or]; exact valV_any k r
theorem length_putK (kvs : List (κ × V)) (k : κ) (v : V) : (putK kvs k v).length ≤ kvs.length + 1 := by
  unfold putK
  split
  · rw [List.length_map]; omega
  · rw [List.length_append, List.length_cons, List.length_nil]; omega
theorem putK_new {kvs : List (κ × V)} {k : κ} (v : V) (h : valV kvs k = none) : putK kvs k v = kvs ++ [(k, v)] := by
  unfold putK
  rw [valV_any, h]
  exact if_neg (by decide)

theorem RelO.isSome_eq {o : Option V} {u : Option Value} (r : RelO o u) : o.isSome = u.isSome := by
  cases o with
  | none => cases u with
    | none => rfl
    | some _ => exact (show False from r).elim
  | some _ => cases u with
    | none => exact (show False from r).elim
    | some _ => rfl
theorem RelO.getD {o : Option V} {u : Option Value} {d : V} {d' : Value} (r : RelO o u) (rd : RelV d d') : RelV (o.getD d) (u.getD d') := by
  cases o with
  | none => cases u with
    | none => exact rd
    | some _ => exact (show False from r).elim
  | some _ => cases u with
    | none => exact (show False from r).elim
    | some _ => exact r

/-- raw tables of the same keys -/
theorem KV.val {kvs : List (κ × V)} {vs : List (κ × Value)} (r : KV kvs vs) (k : κ) : RelO (valV kvs k) (valueAt vs k) := by
  unfold KV at r
  induction r with
  | nil => exact True.intro
  | @cons p q ps qs h t ih =>
    obtain ⟨h1, h2⟩ := h
    by_cases e : p.1 = k
    · have e' : q.1 = k := h1.symm.trans e
      have b : valueAt (q :: qs) k = some q.2 := by simp [valueAt, List.find?_cons, e']
      rw [valV_pos e, b]; exact h2
    · have e' : ¬ q.1 = k := fun z => e (h1.trans z)
      have b : valueAt (q :: qs) k = valueAt qs k := by simp [valueAt, List.find?_cons, e']
      rw [valV_neg e, b]; exact ih
theorem KV.any {kvs : List (κ × V)} {vs : List (κ × Value)} (r : KV kvs vs) (k : κ) : (kvs.any fun kv => decide (kv.1 = k)) = vs.any fun kv => decide (kv.1 = k) := by
  unfold KV at r
  induction r with
  | nil => rfl
  | cons h t ih => rw [List.any_cons, List.any_cons, ih, h.1]
theorem KV.repl {kvs : List (κ × V)} {vs : List (κ × Value)} (r : KV kvs vs) (k : κ) {y : V} {u : Value} (ry : RelV y u) :
    KV (kvs.map fun kv => if kv.1 = k then (kv.1, y) else kv) (vs.map fun kv => if kv.1 = k then (kv.1, u) else kv) := by
  unfold KV at r ⊢
  induction r with
  | nil => exact .nil
  | @cons p q ps qs h t ih =>
    rw [List.map_cons, List.map_cons]
    refine .cons ?_ ih
    obtain ⟨h1, h2⟩ := h
    by_cases e : p.1 = k
    · rw [if_pos e, if_pos (h1.symm.trans e)]; exact ⟨h1, ry⟩
    · rw [if_neg e, if_neg (fun z => e (h1.trans z))]; exact ⟨h1, h2⟩
theorem KV.put {kvs : List (κ × V)} {vs : List (κ × Value)} (r : KV kvs vs) (k : κ) {y : V} {u : Value} (ry : RelV y u) : KV (putK kvs k y) (stored vs k u) := by
  unfold putK stored
  rw [r.any k]
  by_cases e : (vs.any fun kv => decide (kv.1 = k)) = true
  · rw [if_pos e, if_pos e]; exact r.repl k ry
  · rw [if_neg e, if_neg e]; exact Paired.snoc r ⟨rfl, ry⟩
theorem KV.drop {kvs : List (κ × V)} {vs : List (κ × Value)} (r : KV kvs vs) (k : κ) : KV (dropK kvs k) (without vs k) := by
  unfold KV at r ⊢
  unfold dropK without
  induction r with
  | nil => exact .nil
  | @cons p q ps qs h t ih =>
    obtain ⟨h1, h2⟩ := h
    rw [List.filter_cons, List.filter_cons]
    by_cases e : p.1 = k
    · have a : ¬ decide (p.1 ≠ k) = true := by simp [e]
      have b : ¬ decide (q.1 ≠ k) = true := by simp [h1.symm.trans e]
      rw [if_neg a, if_neg b]; exact ih
    · have e' : ¬ q.1 = k := fun z => e (h1.trans z)
      have a : decide (p.1 ≠ k) = true := by simp [e]
      have b : decide (q.1 ≠ k) = true := by simp [e']
      rw [if_pos a, if_pos b]; exact .cons ⟨h1, h2⟩ ih
theorem KV.keys {kvs : List (κ × V)} {vs : List (κ × Value)} (r : KV kvs vs) : kvs.map (·.1) = vs.map (·.1) := by
  unfold KV at r
  induction r with
  | nil => rfl
  | cons h t ih => rw [List.map_cons, List.map_cons, ih, h.1]
theorem KV.length {kvs : List (κ × V)} {vs : List (κ × Value)} (r : KV kvs vs) : kvs.length = vs.length := Paired.length r
end


theorem kV_is {P : Program} {w : World} {k : Key} {u : Value} (r : RelV (kV k) u) : (mixKind P w).is k u = true := by
  cases k with
  | inl i => obtain ⟨t, e⟩ := (show ∃ t, u = Value.int i t from r); subst e; exact mixKind_int P w i t
  | inr x => obtain ⟨t, e⟩ := (show ∃ t, u = Value.str x t from r); subst e; exact mixKind_str P w x t
theorem items_are {P : Program} {w : World} : ∀ {ks : List Key} {us : List Value}, Vals (ks.map kV) us → ItemsAre (mixKind P w) ks us
  | [], _, r => by rw [List.map_nil] at r; cases r; exact .nil
  | k :: ks, _, r => by
    rw [List.map_cons] at r
    cases r with
    | cons h t => exact .cons (kV_is h) (items_are t)

/-- raw entries of a dict with tuple keys -/
abbrev KT (H : Hp) : List (List Key × V) → List (List Key × Addr × Value) → Prop := Paired fun p q => p.1 = q.1 ∧ H q.2.1 = some (.tup (p.1.map kV)) ∧ RelV p.2 q.2.2
theorem KT.val {H : Hp} {kvs : List (List Key × V)} {xs : List (List Key × Addr × Value)} (r : KT H kvs xs) (k : List Key) : RelO (valV kvs k) ((atKey xs k).map (·.2)) := by
  induction r with
  | nil => exact True.intro
  | @cons p q ps qs h t ih =>
    obtain ⟨h1, _, h2⟩ := h
    by_cases e : p.1 = k
    · have e' : q.1 = k := h1.symm.trans e
      have b : atKey (q :: qs) k = some q.2 := by simp [atKey, List.find?_cons, e']
      rw [valV_pos e, b]; exact h2
    · have e' : ¬ q.1 = k := fun z => e (h1.trans z)
      have b : atKey (q :: qs) k = atKey qs k := by simp [atKey, List.find?_cons, e']
      rw [valV_neg e, b]; exact ih
theorem KT.repl {H : Hp} {kvs : List (List Key × V)} {xs : List (List Key × Addr × Value)} (r : KT H kvs xs) (k : List Key) {y : V} {u : Value} (ry : RelV y u) :
    KT H (kvs.map fun kv => if kv.1 = k then (kv.1, y) else kv) (xs.map (putAt k u)) := by
  induction r with
  | nil => exact .nil
  | @cons p q ps qs h t ih =>
    rw [List.map_cons, List.map_cons]
    refine .cons ?_ ih
    obtain ⟨h1, h2, h3⟩ := h
    unfold putAt
    by_cases e : p.1 = k
    · rw [if_pos e, if_pos (h1.symm.trans e)]; exact ⟨h1, h2, ry⟩
    · rw [if_neg e, if_neg (fun z => e (h1.trans z))]; exact ⟨h1, h2, h3⟩
theorem KT.put {H : Hp} {kvs : List (List Key × V)} {xs : List (List Key × Addr × Value)} (r : KT H kvs xs) (k : List Key) {b : Addr} {y : V} {u : Value} (hb : H b = some (.tup (k.map kV))) (ry : RelV y u) :
    KT H (putK kvs k y) (storedH xs k b u) := by
  have e : (kvs.any fun kv => decide (kv.1 = k)) = (atKey xs k).isSome := by
    rw [valV_any, (r.val k).isSome_eq, Option.isSome_map]
  unfold putK storedH
  rw [e]
  by_cases q : (atKey xs k).isSome = true
  · rw [if_pos q, if_pos q]; exact r.repl k ry
  · rw [if_neg q, if_neg q]; exact Paired.snoc r ⟨rfl, hb, ry⟩
theorem KT.keeps {H H' : Hp} {kvs : List (List Key × V)} {xs : List (List Key × Addr × Value)} (r : KT H kvs xs) (ht : ∀ b ys, H b = some (.tup ys) → H' b = some (.tup ys)) : KT H' kvs xs :=
  Paired.mapP r fun _ _ z => ⟨z.1, ht _ _ z.2.1, z.2.2⟩

section
variable {P : Program} {w : World} {H : Hp} {h : Heap} {a : Addr}
theorem rd_of {u : HO} (ok : HOk P w H h) (e : Rd H a u) : ObjOk P w H h a u := e.ok ok
theorem dk_rd {kvs : List (Key × V)} (ok : HOk P w H h) (e : Rd H a (.dK kvs)) : kvs.length ≤ sizeLine ∧ (a == sysModules) = false ∧ ∃ vs, KV kvs vs ∧ h.DictOf (mixKind P w) a vs :=
  show ObjOk P w H h a (.dK kvs) from rd_of ok e
theorem dk_of {kvs : List (Key × V)} (ok : HOk P w H h) (e : H a = some (.dK kvs)) : kvs.length ≤ sizeLine ∧ (a == sysModules) = false ∧ ∃ vs, KV kvs vs ∧ h.DictOf (mixKind P w) a vs := dk_rd ok (.inl e)
/-- a tracked tuple of ints and texts is a key -/
theorem key_of {ks : List Key} (ok : HOk P w H h) (e : H a = some (.tup (ks.map kV))) : (tupleKind (mixKind P w)).is h ks a := by
  obtain ⟨_, its, r, o, h1, h2, n, h3⟩ := (show ObjOk P w H h a (.tup (ks.map kV)) from ok a _ e)
  exact ⟨o, its.toArray, n, h1, h2, h3, by simpa using items_are r⟩
theorem dt_rd {kvs : List (List Key × V)} (ok : HOk P w H h) (e : Rd H a (.dT kvs)) : kvs.length ≤ sizeLine ∧ (a == sysModules) = false ∧
    ∃ xs, KT H kvs xs ∧ h.DictOfH (tupleKind (mixKind P w)) a xs := by
  obtain ⟨z, y, xs, r, o, es, ep, h1, h2, h3, h4, h5⟩ := (show ObjOk P w H h a (.dT kvs) from rd_of ok e)
  refine ⟨z, y, xs, r, o, es, ep, h1, h2, h3, h4, fun x hx => ?_, h5⟩
  have all : ∀ {l : List (List Key × V)} {m : List (List Key × Addr × Value)}, KT H l m → ∀ x ∈ m, (tupleKind (mixKind P w)).is h x.1 x.2.1 := by
    intro l m q
    induction q with
    | nil => intro x hx; exact nomatch hx
    | @cons p q ps qs hq t ih =>
      intro x hx
      rcases List.mem_cons.mp hx with e | hx
      · subst e
        exact key_of ok (by rw [← hq.1]; exact hq.2.1)
      · exact ih x hx
  exact all r x hx
theorem dt_of {kvs : List (List Key × V)} (ok : HOk P w H h) (e : H a = some (.dT kvs)) : kvs.length ≤ sizeLine ∧ (a == sysModules) = false ∧
    ∃ xs, KT H kvs xs ∧ h.DictOfH (tupleKind (mixKind P w)) a xs := dt_rd ok (.inl e)
end

/-- what the dict at a holds at the key y -/
def DGet (H : Hp) (a : Addr) (y : V) (r : Option V) : Prop :=
  (∃ kvs k, Rd H a (.dK kvs) ∧ y = kV k ∧ r = valV kvs k) ∨ ∃ kvs k b, Rd H a (.dT kvs) ∧ y = .ref b ∧ H b = some (.tup (k.map kV)) ∧ r = valV kvs k
/-- the heap behind a[y] = v -/
def DPut (H : Hp) (a : Addr) (y v : V) (H' : Hp) : Prop :=
  (∃ kvs k, H a = some (.dK kvs) ∧ y = kV k ∧ kvs.length < sizeLine ∧ H' = upd H a (.dK (putK kvs k v))) ∨
  ∃ kvs k b, H a = some (.dT kvs) ∧ y = .ref b ∧ H b = some (.tup (k.map kV)) ∧ kvs.length < sizeLine ∧ H' = upd H a (.dT (putK kvs k v))
theorem DGet.k {H : Hp} {a : Addr} {kvs : List (Key × V)} {k : Key} (e : H a = some (.dK kvs)) : DGet H a (kV k) (valV kvs k) := .inl ⟨kvs, k, .inl e, rfl, rfl⟩
theorem DGet.t {H : Hp} {a b : Addr} {kvs : List (List Key × V)} {k : List Key} (e : H a = some (.dT kvs)) (eb : H b = some (.tup (k.map kV))) : DGet H a (.ref b) (valV kvs k) := .inr ⟨kvs, k, b, .inl e, rfl, eb, rfl⟩
theorem DPut.k {H : Hp} {a : Addr} {kvs : List (Key × V)} {k : Key} {v : V} (e : H a = some (.dK kvs)) (hl : kvs.length < sizeLine) : DPut H a (kV k) v (upd H a (.dK (putK kvs k v))) := .inl ⟨kvs, k, e, rfl, hl, rfl⟩
theorem DPut.t {H : Hp} {a b : Addr} {kvs : List (List Key × V)} {k : List Key} {v : V} (e : H a = some (.dT kvs)) (eb : H b = some (.tup (k.map kV))) (hl : kvs.length < sizeLine) :
    DPut H a (.ref b) v (upd H a (.dT (putK kvs k v))) := .inr ⟨kvs, k, b, e, rfl, eb, hl, rfl⟩


section
variable {X : Cx} {pins : List (Addr × Obj)} {σ : St} {H : Hp} {s : Shared} {a : Addr} {y v : V} {u r : Value} {o : Option V} {A : Around} {E : Value → Shared → Prop}

theorem Inv.big (I : Inv X pins σ H s) : sysModules < s.heap.objs.size := by
  have h : mainGlobals < s.heap.objs.size := (I.mod.glob.keeps I.bk).lt
  exact Nat.lt_trans (by decide) h

/-- d[y], there -/
theorem d_getItem {Q : Value → Shared → Prop} (hu : A.units + 1 < cLine) (I : Inv X pins σ H s) (g : DGet H a y (some v)) (ry : RelV y u) (h : ∀ w' s', Inv X pins σ H s' → RelV v w' → Q w' s') :
    wpAny (model X.prog X.w) A (getItem (.ref a) u) Q E s := by
  rcases g with ⟨kvs, k, e, ey, l⟩ | ⟨kvs, k, b, e, ey, eb, l⟩
  · subst ey
    obtain ⟨z, hd, vs, rel, dd⟩ := dk_rd I.hok e
    obtain ⟨w', hw, rw'⟩ := RelO.some_of (v := v) (o := valueAt vs k) (by rw [l]; exact rel.val k)
    exact wpAny_getItem_of (kV_is ry) dd.mapOf hw (h w' _ (I.tok _) rw')
  · subst ey
    cases (show u = Value.ref b from ry)
    obtain ⟨z, hd, xs, rel, dd⟩ := dt_rd I.hok e
    obtain ⟨w', hw, rw'⟩ := RelO.some_of (v := v) (o := (atKey xs k).map (·.2)) (by rw [l]; exact rel.val k)
    obtain ⟨p, hp, hp2⟩ := Option.map_eq_some_iff.mp hw
    refine wpAny_getItem_heap (tupleKind_room_in1 hu) (key_of I.hok eb) dd hp ?_
    rw [hp2]
    exact h w' _ (I.tok _) rw'
/-- y in d -/
theorem d_in {Q : Value → Shared → Prop} (hu : A.units + 1 < cLine) (I : Inv X pins σ H s) (g : DGet H a y o) (ry : RelV y u) (h : ∀ s', Inv X pins σ H s' → Q (.bool o.isSome) s') :
    wpAny (model X.prog X.w) A (compareOp .In u (.ref a)) Q E s := by
  rcases g with ⟨kvs, k, e, ey, l⟩ | ⟨kvs, k, b, e, ey, eb, l⟩
  · subst ey
    obtain ⟨z, hd, vs, rel, dd⟩ := dk_rd I.hok e
    refine wpAny_in_of (kV_is ry) hd dd.mapOf ?_
    rw [← (rel.val k).isSome_eq, ← l]
    exact h _ (I.tok _)
  · subst ey
    cases (show u = Value.ref b from ry)
    obtain ⟨z, hd, xs, rel, dd⟩ := dt_rd I.hok e
    refine wpAny_in_heap (tupleKind_room_in1 hu) (key_of I.hok eb) hd dd ?_
    have q := (rel.val k).isSome_eq
    rw [Option.isSome_map] at q
    rw [← q, ← l]
    exact h _ (I.tok _)
/-- a dict's object is replaced -/
theorem d_write {h' : Heap} {t' : Nat} {ob : HO} (I : Inv X pins σ H s) (mu : Mut (H a)) (hs : Heap.SameBut a s.heap h') (he : ∃ q, h'.get? a = some q) (new : ObjOk X.prog X.w (upd H a ob) h' a ob) :
    Inv X pins σ (upd H a ob) { s with heap := h', toks := t' } :=
  I.write (x := a) (e := a) mu (.inl rfl) (fun b q hb z => (hs.2 b hb).trans z) he new
theorem dk_new {P : Program} {w : World} {H' : Hp} {h' : Heap} {kvs : List (Key × V)} {vs : List (Key × Value)} (z : kvs.length ≤ sizeLine) (hd : (a == sysModules) = false) (rel : KV kvs vs) (dd : h'.DictOf (mixKind P w) a vs) :
    ObjOk P w H' h' a (.dK kvs) := ⟨z, hd, vs, rel, dd⟩
/-- d[y] = v -/
theorem d_setItem {H' : Hp} {Q : Unit → Shared → Prop} (hu : A.units + 1 < cLine) (I : Inv X pins σ H s) (g : DPut H a y v H') (ry : RelV y u) (rv : RelV v r) (h : ∀ s', Inv X pins σ H' s' → Q () s') :
    wpAny (model X.prog X.w) A (setItem (.ref a) u r) Q E s := by
  rcases g with ⟨kvs, k, e, ey, l, eH⟩ | ⟨kvs, k, b, e, ey, eb, l, eH⟩
  · subst ey eH
    obtain ⟨z, hd, vs, rel, dd⟩ := dk_of I.hok e
    have hz : vs.length ≤ sizeLine := by rw [← rel.length]; exact z
    have hl : (putK kvs k v).length ≤ sizeLine := by have := length_putK kvs k v; omega
    refine wpAny_setItem_pairs (hsz := hz) (kV_is ry) dd fun h' dd' hs => h _ ?_
    have he : ∃ q, h'.get? a = some q := let ⟨q, _, _, hq, _⟩ := dd'; ⟨q, hq⟩
    exact d_write I (by rw [e]; exact True.intro) hs he (dk_new hl hd (rel.put k rv) dd')
  · subst ey eH
    cases (show u = Value.ref b from ry)
    obtain ⟨z, hd, xs, rel, dd⟩ := dt_of I.hok e
    have hz : xs.length ≤ sizeLine := by rw [← Paired.length rel]; exact z
    have hl : (putK kvs k v).length ≤ sizeLine := by have := length_putK kvs k v; omega
    refine wpAny_setItem_heap (hsz := hz) (tupleKind_room_in1 hu) (key_of I.hok eb) dd fun h' dd' hs => h _ ?_
    obtain ⟨q, es, ep, hq, h2, h3, h4, _, h5⟩ := dd'
    refine d_write I (by rw [e]; exact True.intro) hs ⟨q, hq⟩ ⟨hl, hd, _, (rel.put k eb rv).keeps fun c ys ec => ?_, q, es, ep, hq, h2, h3, h4, h5⟩
    rw [upd_ne (ne_of ec e (fun z => nomatch z))]
    exact ec
end

section
variable {X : Cx} {pins : List (Addr × Obj)} {σ : St} {H : Hp} {s : Shared} {a : Addr} {kvs : List (Key × V)} {k : Key} {u : Value} {A : Around} {E : Value → Shared → Prop}
end


/-- the element of a subscription, not a slice -/
def NoSl (i : Expr) : Prop := ∀ ov iv, subscripted i false ov iv = operate [ov, iv] (getItem ov iv)
theorem subD_of {prog : Program} {w : World} {A : Around} {E : Value → Shared → Prop} {s : Shared} {env : Env} {value slice : Expr} {pos : Pos} {T id : String} {Q : Value → Shared → Prop}
    (hl : typeLookup (.type T) "__getitem__" = pure (some (.builtin id))) (hs : NoSl slice)
    (h : wpAny (model prog w) A (eval value env) (fun o s₁ => wpAny (model prog w) A (eval slice env) (fun i s₂ => s₂.TypeIs o T ∧ wpAny (model prog w) A (getItem o i) Q E s₂) E s₁) E s) :
    wpAny (model prog w) A (eval (.Subscript value slice pos) env) Q E s := by
  refine Subscript_ (wpAny_mono h (fun o s₁ h₁ => wpAny_mono h₁ (fun i s₂ h₂ => ?_) fun _ _ x => x) fun _ _ x => x)
  obtain ⟨hT, h₂⟩ := h₂
  unfold subscriptTail
  refine wpAny_bind ?_
  rw [getitemInPython_of_ne hT.not_modules]
  refine wpAny_bind (wpAny_specialOf hT hl ?_)
  have fin : wpAny (model prog w) A (subscripted slice false o i) (fun r s₃ => wpAny (model prog w) A (letTemporaryGo value o r >>= fun _ => pure r) Q E s₃) E s₂ := by
    rw [hs o i]
    exact wpAny_operating (wpAny_mono h₂ (fun r s₃ h₃ => wpAny_bind (wpAny_letTemporaryGo (wpAny_pure h₃))) fun _ _ x => x)
  first
    | exact wpAny_pure (wpAny_bind fin)
    | exact wpAny_bind (wpAny_pure (wpAny_bind fin))
    | exact wpAny_bind fin

theorem dict_typeIs {X : Cx} {pins : List (Addr × Obj)} {σ : St} {H : Hp} {s : Shared} {a : Addr} {y : V} {o : Option V} (I : Inv X pins σ H s) (g : DGet H a y o) : s.TypeIs (.ref a) "dict" := by
  rcases g with ⟨kvs, k, e, _, _⟩ | ⟨kvs, k, b, e, _, _, _⟩
  · obtain ⟨_, _, vs, _, dd⟩ := dk_rd I.hok e
    exact dd.typeIs
  · obtain ⟨_, _, xs, _, dd⟩ := dt_rd I.hok e
    exact dd.typeIs
/-- d[y] -/
def tDGet (td ty : TE) : TE := fun σ H Q => td σ H fun x H1 => ty σ H1 fun y H2 => ∃ a v, x = .ref a ∧ DGet H2 a y (some v) ∧ Q v H2
/-- y in d, y not in d -/
def tDIn (ty td : TE) : TE := fun σ H Q => ty σ H fun y H1 => td σ H1 fun x H2 => ∃ a o, x = .ref a ∧ DGet H2 a y o ∧ Q (.bl o.isSome) H2
def tDNotIn (ty td : TE) : TE := fun σ H Q => ty σ H fun y H1 => td σ H1 fun x H2 => ∃ a o, x = .ref a ∧ DGet H2 a y o ∧ Q (.bl (!o.isSome)) H2
/-- d[y] = v -/
def sDPut (td ty tv : TE) : TS := fun D σ H => tv σ H fun v H1 => td σ H1 fun x H2 => ty σ H2 fun y H3 => ∃ a H4, x = .ref a ∧ DPut H3 a y v H4 ∧ D.nx σ H4
/-- d[y] op= v -/
def sDAug (td ty tv : TE) (rd : V → V → Hp → VK → Prop) : TS := fun D σ H => td σ H fun x H1 => ty σ H1 fun y H2 => ∃ a v, x = .ref a ∧ DGet H2 a y (some v) ∧
  tv σ H2 fun y2 H3 => rd v y2 H3 fun z H4 => ∃ H5, DPut H4 a y z H5 ∧ D.nx σ H5
/-- del d[y] -/
def sDDel (td ty : TE) : TS := fun D σ H => td σ H fun x H1 => ty σ H1 fun y H2 => ∃ a kvs k, x = .ref a ∧ H2 a = some (.dK kvs) ∧ y = kV k ∧ (valV kvs k).isSome = true ∧ D.nx σ (upd H2 a (.dK (dropK kvs k)))

section
variable {X : Cx} {o i e value : Expr} {pos pos' tpos : Pos} {td ty tv : TE}
theorem pe_dget (hu : X.A.units + 1 < cLine) (ho : PE X o td) (hi : PE X i ty) (hs : NoSl i) : PE X (.Subscript o i pos) (tDGet td ty) := by
  intro pins s σ H Q I h
  refine subD_of PySem.F.slot_dict_getitem.lookup hs (thn (ho pins s σ H _ I h) fun u s1 ⟨x, H1, I1, rx, q1⟩ => thn (hi pins s1 σ H1 _ I1 q1) fun iv s2 ⟨y, H2, I2, ry, a, v, ex, g, q2⟩ => ?_)
  subst ex
  obtain rfl : u = Value.ref a := rx
  exact ⟨dict_typeIs I2 g, d_getItem hu I2 g ry fun w' s3 I3 rw' => ⟨v, H2, I3, rw', q2⟩⟩
theorem pc_din (hu : X.A.units + 1 < cLine) (hi : PE X i ty) (ho : PE X o td) : PC X .In i o (tDIn ty td) := by
  intro pins s σ H Q I h
  refine thn (hi pins s σ H _ I h) fun iv s1 ⟨y, H1, I1, ry, q1⟩ => thn (ho pins s1 σ H1 _ I1 q1) fun u s2 ⟨x, H2, I2, rx, a, ov, ex, g, q2⟩ => ?_
  subst ex
  obtain rfl : u = Value.ref a := rx
  exact d_in hu I2 g ry fun s3 I3 => ⟨.bl ov.isSome, H2, I3, rfl, q2⟩
theorem ps_dput (hu : X.A.units + 1 < cLine) (ho : PE X o td) (hi : PE X i ty) (hv : PE X value tv) (hs : swapsWith value (some (.Subscript o i pos')) pos.line X.env = pure false) :
    PS X (.Assign [.Subscript o i pos'] value pos) (sDPut td ty tv) := by
  intro pins s σ H D I h
  refine wpAny_Assign_Subscript (thn (hv pins s σ H _ I h) fun r s1 ⟨v, H1, I1, rv, q1⟩ => thn (ho pins s1 σ H1 _ I1 q1) fun u s2 ⟨x, H2, I2, rx, q2⟩ => thn (hi pins s2 σ H2 _ I2 q2) fun iv s3 ⟨y, H3, I3, ry, a, H4, ex, g, q3⟩ => ?_) hs
  subst ex
  obtain rfl : u = Value.ref a := rx
  exact d_setItem hu I3 g ry rv fun s4 I4 => ⟨σ, H4, I4, q3⟩
end


theorem dt_empty {P : Program} {w : World} {H : Hp} (h : Heap) (hb : sysModules < h.objs.size) : ObjOk P w H (h.push { cls := .type "dict", data := .dict #[] }) h.objs.size (.dT []) :=
  ⟨Nat.zero_le _, beq_eq_false_iff_ne.mpr (Ne.symm (Nat.ne_of_lt hb)), [], .nil, _, #[], 0, Heap.get?_push_size _ rfl, ⟨rfl, rfl, rfl⟩, rfl, rfl, List.nodup_nil⟩
/-- {}, to be a dict of the kind that is wanted -/
def tDNewK : TE := fun _ H Q => ∀ p, H p = none → Q (.ref p) (upd H p (.dK []))
def tDNewT : TE := fun _ H Q => ∀ p, H p = none → Q (.ref p) (upd H p (.dT []))
section
variable {X : Cx} {pos : Pos}
theorem pe_dnewT : PE X (.Dict [] [] pos) tDNewT := fun pins s σ H Q I h =>
  wpAny_Dict_empty ⟨.ref s.heap.objs.size, _, I.laid (a := s.heap.objs.size) (o := .dT []) (t' := s.toks) (fun _ _ q => Heap.get?_push_of_some _ q) (Nat.le_refl _) (dt_empty s.heap I.big), rfl, h _ (I.hok.fresh (Nat.le_refl _))⟩
end

/-- the pairs of a display, from the left -/
def tPairs : List (TE × TE) → St → Hp → (List (V × V) → Hp → Prop) → Prop
  | [], _, H, Q => Q [] H
  | (tk, tv) :: r, σ, H, Q => tk σ H fun x H1 => tv σ H1 fun y H2 => tPairs r σ H2 fun ps H3 => Q ((x, y) :: ps) H3
abbrev VV : List (V × V) → List (Value × Value) → Prop := Paired fun p q => RelV p.1 q.1 ∧ RelV p.2 q.2
def PPs (X : Cx) (pos : Pos) (keys : List (Option Expr)) (values : List Expr) (trs : List (TE × TE)) : Prop :=
  ∀ (pins : List (Addr × Obj)) (s : Shared) (σ : St) (H : Hp) (Q : List (V × V) → Hp → Prop), Inv X pins σ H s → tPairs trs σ H Q →
    wpAny (model X.prog X.w) X.A (evalPairs (pairTrees keys values X.env pos)) (fun vs s' => ∃ ps H', Inv X pins σ H' s' ∧ VV ps vs ∧ Q ps H') X.xe s
def mergeK (kvs more : List (Key × V)) : List (Key × V) := more.foldl (fun acc kv => putK acc kv.1 kv.2) kvs
/-- {k: v, ..} with keys ints and texts; the new dict stands empty while the pairs are made -/
def tDisp (trs : List (TE × TE)) : TE := fun σ H Q => ∀ p, H p = none → tPairs trs σ (upd H p (.dK [])) fun ps H2 => H2 p = some (.dK []) ∧ ∃ kvs : List (Key × V), ps = kvs.map (fun kv => (kV kv.1, kv.2)) ∧ kvs.length ≤ 15 ∧ Q (.ref p) (upd H2 p (.dK (mergeK [] kvs)))
/-- a method call o.m(e) of a built-in, with one argument: what must be seen of the text -/
structure M1 (X : Cx) (o : Expr) (m : Str) (apos : Pos) (e : Expr) (cpos : Pos) : Prop where
  base : attributeBase o m X.env (eval o X.env) = eval o X.env
  few : ((backTo cpos (starEach [e] X.env)).all (fun x => !x.1) && (backToKw cpos (keywordEach [] X.env)).all (fun x => x.1.isSome)
    && decide (([e] : List Expr).length + ([] : List Keyword).length + (if ([] : List Keyword).isEmpty then 0 else 1) < 30)) = true
  line : (apos.endLine == cpos.line) = true
  trees : backTo cpos (starEach [e] X.env) = [(false, eval e X.env)]
structure M2 (X : Cx) (o : Expr) (m : Str) (apos : Pos) (e f : Expr) (cpos : Pos) : Prop where
  base : attributeBase o m X.env (eval o X.env) = eval o X.env
  few : ((backTo cpos (starEach [e, f] X.env)).all (fun x => !x.1) && (backToKw cpos (keywordEach [] X.env)).all (fun x => x.1.isSome)
    && decide (([e, f] : List Expr).length + ([] : List Keyword).length + (if ([] : List Keyword).isEmpty then 0 else 1) < 30)) = true
  line : (apos.endLine == cpos.line) = true
  trees : backTo cpos (starEach [e, f] X.env) = [(false, eval e X.env), (false, eval f X.env)]

/-- a is a dict, whatever its keys -/
def IsD (H : Hp) (a : Addr) : Prop := (∃ kvs, Rd H a (.dK kvs)) ∨ ∃ kvs, Rd H a (.dT kvs)
section
variable {X : Cx} {pins : List (Addr × Obj)} {σ : St} {H : Hp} {s : Shared} {a : Addr} {y d : V} {u r : Value} {o : Option V} {A : Around} {E : Value → Shared → Prop}
end

def tDGet1 (td ty : TE) : TE := fun σ H Q => td σ H fun x H1 => ∃ a, x = .ref a ∧ IsD H1 a ∧ ty σ H1 fun y H2 => ∃ o, DGet H2 a y o ∧ Q (o.getD .non) H2
def tDGet2 (td ty tx : TE) : TE := fun σ H Q => td σ H fun x H1 => ∃ a, x = .ref a ∧ IsD H1 a ∧ ty σ H1 fun y H2 => tx σ H2 fun z H3 => ∃ o, DGet H3 a y o ∧ Q (o.getD z) H3
/-- d.pop(k): there; d.pop(k, x): there or not -/
def tDPop1 (td ty : TE) : TE := fun σ H Q => td σ H fun x H1 => ∃ a, x = .ref a ∧ IsD H1 a ∧ ty σ H1 fun y H2 => ∃ kvs k v, H2 a = some (.dK kvs) ∧ y = kV k ∧ valV kvs k = some v ∧ Q v (upd H2 a (.dK (dropK kvs k)))
def tDPop2 (td ty tx : TE) : TE := fun σ H Q => td σ H fun x H1 => ∃ a, x = .ref a ∧ IsD H1 a ∧ ty σ H1 fun y H2 => tx σ H2 fun z H3 => ∃ kvs k, H3 a = some (.dK kvs) ∧ y = kV k ∧
  (∀ v, valV kvs k = some v → Q v (upd H3 a (.dK (dropK kvs k)))) ∧ (valV kvs k = none → Q z H3)
section
variable {X : Cx} {o e f : Expr} {apos cpos : Pos} {td ty tx : TE}
end

section
variable {X : Cx} {pins : List (Addr × Obj)} {σ : St} {H : Hp} {s : Shared} {a : Addr} {kvs : List (Key × V)} {A : Around} {E : Value → Shared → Prop}
end


section
variable {X : Cx} {pins : List (Addr × Obj)} {σ : St} {H : Hp} {s : Shared} {a : Addr} {y : V} {u : Value} {A : Around} {E : Value → Shared → Prop}
end
end L2

namespace Att
open PySem PySem.W PySem.Calls PyProof.Rows

theorem ints_of_wellAll {P : Params} {h : Heap} : ∀ (ns : List Int) (vs : List Value), WellAll P h vs (ns.map WData.int) → IntsAre vs ns := by
  intro ns
  induction ns with
  | nil =>
    intro vs w
    rw [List.map_nil] at w
    cases w
    exact .nil
  | cons n ns ih =>
    intro vs w
    rw [List.map_cons] at w
    cases w with
    | cons a b =>
      cases a
      exact .cons _ _ (ih _ b)

theorem script_of {l : OpenLaw} {n : Nat} (hn : l.most = some n) {P : Params} {h : Heap} {args : List WData} {vals : List Value}
    (hpre : l.row.toRowW.claim.pre args = true) (hwl : WellAll P h vals args) :
    ∃ a vs ns, vals = [Value.ref a] ∧ args = [WData.list (ns.map WData.int)] ∧ h.get? a = some { cls := .type "list", data := .seq vs.toArray } ∧ IntsAre vs ns ∧ ns.length ≤ n := by
  have hsh : WShape.hasAll [] args [.list .int] = true := (pre_splitW hpre).1
  have hc : l.pre.holds [] { args := args } = true := (pre_splitW hpre).2
  obtain ⟨d, r, rfl, h1, h2⟩ := hasAllW_cons hsh
  obtain rfl := hasAllW_nil h2
  obtain ⟨xs, rfl, h3⟩ := hasW_list h1
  obtain ⟨ns, rfl⟩ := items_int h3
  have hlen : ns.length ≤ n := by
    unfold OpenLaw.pre at hc
    have h4 : (WTm.not (.lt (.lit (.int (n : Int))) (.len (.arg 0)))).holds [] { args := [.list (ns.map .int)] } = true := by
      have h4 := (holds_andW hc).1
      rw [hn] at h4
      exact h4
    have h5 := condW_of h4 (w_not (w_lt w_lit (w_len_list (w_arg rfl))))
    rw [List.length_map] at h5
    refine Nat.le_of_not_lt fun q => ?_
    have q' : (n : Int) < ((ns.length : Nat) : Int) := by omega
    first
      | (rw [decide_eq_true q'] at h5; exact absurd h5 (by decide))
      | (simp at h5; omega)
  cases hwl with
  | cons w1 w2 =>
    cases w2
    cases w1 with
    | list ho hall => exact ⟨_, _, ns, rfl, rfl, ho, ints_of_wellAll ns _ hall, hlen⟩

theorem post_true (l : OpenLaw) (args : List WData) : l.row.toRowW.claim.post args (.bool true) args = true :=
  postW_of (r := l.row.toRowW) (X := (true == true))
    (show WShape.has [] (.bool true) .bool = true by first | rfl | decide | simp [WShape.has, WShape.arms, WShape.armsAll])
    (show (WTm.eq .res (.lit (.bool true))).value [] { args := args, res := some (.bool true), after := args } = some (.bool (true == true)) from w_eq_bool (w_res rfl) w_lit) rfl

/-- the same from a codeAny of the CALL (for a layer whose function contracts speak of calls) -/
theorem attach_call {l : OpenLaw} {n : Nat} {q : Program} {loose : List Str} {XP : (Str → Option Value) → Heap → Prop} {YP : World → Heap → Prop} {d : DefRec}
    (hn : l.most = some n) (hdf : d.params.defaults = [])
    (call : ∀ (w : World) (s₀ s₁ : Shared) (mg mb : Str → Option Value) (fa : Addr) (o : Obj) (pm cd doc : Value) (a : Addr) (vs : List Value) (ns : List Int),
      Ground q loose [] XP w s₀ mg mb s₁.heap → YP w s₁.heap →
      s₁.heap.get? fa = some o → o.data = .func (docDef d.name d.params d.body d.scope pm cd doc) → s₁.heap.CodeRec cd d.name → mg d.name = some (.ref fa) →
      s₁.heap.get? a = some { cls := .type "list", data := .seq vs.toArray } → IntsAre vs ns → ns.length ≤ n → s₁.gens = #[] →
      codeAny (model l.prog w) callerA (.call (.ref fa) ⟨[.ref a], []⟩) (fun r s' => r = .ok (.ret (.bool true)) ∧ OldK s₁.heap s'.heap ∧ s'.os = s₁.os ∧ AllBare s'.gens) s₁) :
    WalkO q loose XP YP l.row.toRowW d [] (fun f vs => PySem.call f vs) := by
  intro w s₀ s₁ mg mb G Y fa o pm cd doc dV kV ho hd hcd hD hmg hg args vals as hpre hlay hrd hwl hlo
  obtain rfl : dV = .none := Dflts.none hD hdf
  obtain rfl : kV = .none := Dflts.noKw hD
  obtain ⟨a, vs, ns, rfl, rfl, hobj, hints, hlen⟩ := script_of hn hpre hwl
  refine enter_call (codeAny_mono (call w s₀ s₁ mg mb fa o pm cd doc a vs ns G Y ho (fd_plain hd) hcd hmg hobj hints hlen hg) fun r s' hq => ?_)
  obtain ⟨rfl, h2, h3, h4⟩ := hq
  exact ⟨.inl ⟨.bool true, .bool true, [], rfl, fun _ => rfl, .bool true, post_true l _, fun _ => ⟨List.Pairwise.nil, fun _ hm => (nomatch hm)⟩⟩, h2, h3, h4⟩

section
variable {prog : Program} {w : World} {A : Around} {E : Value → Shared → Prop} {s : Shared} {K : Frag}

def noObjs (h : Heap) : Heap := { h with objs := #[] }
def ledger (h : Heap) (L d : Addr) : List (Addr × Obj) := (List.range h.objs.size).filterMap fun a => if a = L ∨ a = d then none else (h.get? a).map fun o => (a, o)
end
end Att

namespace L2
open PySem PySem.Spec PyProof.Rows

theorem vals_ints : ∀ {vs : List Value} {ns : List Int}, IntsAre vs ns → Vals (ns.map V.int) vs
  | _, _, .nil => .nil
  | _, _, .cons n t h => .cons ⟨t, rfl⟩ (vals_ints h)

/-- nothing is tracked but the script, known to the object (or it is an object of the module) -/
def Only (H : Hp) : Prop := ∀ b, H b = none ∨ ∃ o xs, H b = some (.frz o (.lst xs))

/-- THE HEAD: the law's promise, at the heap behind the top. F, the promise of the law's def, may use that base is part of the heap (so K.In base, base.Ns mainGlobals mg stand in Mod) -/
theorem law_call {P : Program} {w : World} {K : PySem.W.Frag} {mg mb : Str → Option Value} {CX : CXT} {k : Nat} {fa a : Addr} {fd : FuncData} {x : Str} {sp : Sp} {s₁ : Shared} {vs : List Value} {ns : List Int}
    (KX : K.In s₁.heap) (hns : s₁.heap.Ns mainGlobals mg) (hb : s₁.heap.Ns builtinsNs mb) (hbb : ∀ x : Str, x ≠ "__name__" → mb x = bootBuiltins x) (hlim : s₁.heap.NoLimit) (hg : s₁.gens = #[])
    (ha : s₁.heap.get? a = some { cls := .type "list", data := .seq vs.toArray }) (hi : IntsAre vs ns) (hl : ns.length ≤ sizeLine) (hr : Room true k callerA)
    (F : ∀ base : Heap, K.In base → base.Ns mainGlobals mg → FnOk P w K mg base CX true k fa fd [x] sp) (hbind : ∀ (s : Shared) (u : Value), BindsTo s fd ⟨[u], []⟩ [(x, u)])
    (hsp : ∀ H : Hp, Only H → SqL K H a (ns.map V.int) → sp [.ref a] H (fun v _ => v = .bl true) fun _ _ _ => False)
    (hCX : ∀ H e s', CX [] H s₁ (fun _ _ _ => False) e s' → False) :
    codeAny (model P w) callerA (.call (.ref fa) ⟨[.ref a], []⟩) (fun r s' => r = .ok (.ret (.bool true)) ∧ OldK s₁.heap s'.heap ∧ s'.os = s₁.os ∧ AllBare s'.gens) s₁ := by
  have rv := vals_ints hi
  have lenV := hi.length
  -- from an abstract heap in which nothing but the script may be tracked
  have core : ∀ H : Hp, Only H → SqL K H a (ns.map V.int) → HOk P w H s₁.heap → (∀ b, H b ≠ none → b = a) → (H a ≠ none → K.lookup a = none) →
      codeAny (model P w) callerA (.call (.ref fa) ⟨[.ref a], []⟩) (fun r s' => r = .ok (.ret (.bool true)) ∧ OldK s₁.heap s'.heap ∧ s'.os = s₁.os ∧ AllBare s'.gens) s₁ := by
    intro H hO hS hok hA hK
    have base_of : ∀ {b : Addr} {o : Obj}, s₁.heap.get? b = some o → H b = none → (hidT s₁.heap H).get? b = some o := fun e n => hidT_get e n
    have noA : ∀ {b : Addr} {o : Obj} {es : Array DictEntry} {ep : Nat}, s₁.heap.get? b = some o → o.data = .dict es ep → H b = none := fun {b o es ep} e d => by
      cases q : H b with
      | none => rfl
      | some u =>
        have e' : b = a := hA b (by rw [q]; simp)
        subst e'
        rw [ha] at e; cases e
        have d' : Data.seq vs.toArray _ = Data.dict es ep := d
        cases d'
    have nsK : ∀ {b : Addr} {m : Str → Option Value}, s₁.heap.Ns b m → (hidT s₁.heap H).Ns b m := fun {b m} ⟨o, es, ep, e, d, r⟩ => ⟨o, es, ep, base_of e (noA e d), d, r⟩
    have hKb : K.In (hidT s₁.heap H) := fun b o e => base_of (KX b o e) (by
      cases q : H b with
      | none => rfl
      | some u =>
        have e' : b = a := hA b (by rw [q]; simp)
        subst e'
        rw [hK (by rw [q]; simp)] at e; cases e)
    have hM : Mod K mg (hidT s₁.heap H) := ⟨hKb, nsK hns, ⟨mb, nsK hb, hbb⟩, let ⟨mc, h1, h2⟩ := hlim; ⟨mc, nsK h1, h2⟩⟩
    have e0 : Env0 P w K mg (hidT s₁.heap H) callerA [] s₁ H := ⟨rfl, hM, fun b o e => of_hidT e, Nat.le_of_eq (hidT_size _ _), trivial, fun b hb => absurd (show b ∈ ([] : List Addr) from hb) (by simp), hok, .of_eq hg⟩
    refine codeAny_mono ((F _ hKb (nsK hns)).run callerA [] s₁ H ⟨[.ref a], []⟩ [.ref a] [.ref a] _ _ hr e0 (hbind s₁ (.ref a)) (.cons rfl .nil) (hsp H hO hS)) fun r s' h => ?_
    cases r with
    | error e => exact (hCX H e s' h).elim
    | ok fl =>
      cases fl with
      | next => exact False.elim h
      | brk => exact False.elim h
      | cont => exact False.elim h
      | ret u =>
        obtain ⟨v, H', os, bare, un, hok', r', q⟩ := h
        have q' : v = .bl true := q
        subst q'
        obtain rfl : u = Value.bool true := r'
        refine ⟨rfl, OldK.of_keep fun b o e => ?_, os, bare⟩
        cases q : H b with
        | none => exact un.keep b o e q (by intro z; exact absurd (show b ∈ ([] : List Addr) from z) (by simp)) (by simp)
        | some u =>
          rcases hO b with z | ⟨ob, xs, z⟩
          · rw [q] at z; cases z
          · have z2 := un.frzs b ob _ z
            obtain ⟨e1, _⟩ := hok b _ z
            obtain ⟨e2, _⟩ := hok' b _ z2
            rw [e] at e1; cases e1
            exact e2
  cases hk : K.lookup a with
  | some o =>
    -- the script is one of the module's own objects
    have e := KX a o hk
    rw [ha] at e
    cases e
    refine core (fun _ => none) (fun _ => .inl rfl) (.inr ⟨_, vs.toArray, _, hk, rfl, rfl, rfl, by rw [List.size_toArray, lenV]; exact hl, by simpa using rv⟩) (fun b u z => by have z' : (none : Option HO) = some u := z; cases z') (fun b z => absurd rfl z) fun z => absurd rfl z
  | none =>
    refine core (fun b => if b = a then some (.frz { cls := .type "list", data := .seq vs.toArray } (.lst (ns.map V.int))) else none) (fun b => ?_) (.inl (.inr ⟨{ cls := .type "list", data := .seq vs.toArray }, if_pos rfl⟩)) (fun b u z => ?_) (fun b z => ?_) fun _ => hk
    · by_cases hb : b = a
      · exact .inr ⟨_, _, if_pos hb⟩
      · exact .inl (if_neg hb)
    · by_cases hb : b = a
      · have z' := (if_pos hb).symm.trans z
        cases z'
        subst hb
        exact ⟨ha, by rw [List.length_map]; exact hl, vs, _, rv, ha⟩
      · have z' := (if_neg hb).symm.trans z
        cases z'
    · by_cases hb : b = a
      · exact hb
      · exact absurd (if_neg hb) z
end L2

namespace L2
open PySem PySem.Spec PyProof.Rows

abbrev KOf {K : PySem.W.Frag} {h : Heap} (_ : K.In h) : PySem.W.Frag := K

/-- the goal that k_head leaves (case hc), from the law's promise. F gives the function object fd (K's own) once, then the promise over every base -/
theorem walk_of {l : PySem.W.OpenLaw} {n k : Nat} {q : Program} {loose : List Str} {XP : (Str → Option Value) → Heap → Prop} {YP : World → Heap → Prop} {d : DefRec} {K : Params → PySem.W.Frag} {CX : World → CXT} {sp : World → Sp} {x : Str}
    (hn : l.most = some n) (hn2 : n ≤ sizeLine) (hdf : d.params.defaults = []) (hr : Room true k callerA)
    (hY : ∀ (w : World) (h : Heap), YP w h → (K w.params).In h)
    (F : ∀ (w : World) (mg : Str → Option Value) (fa : Addr) (h : Heap), (K w.params).In h → h.Ns mainGlobals mg → mg d.name = some (.ref fa) →
      ∃ fd : FuncData, (∀ (s : Shared) (u : Value), BindsTo s fd ⟨[u], []⟩ [(x, u)]) ∧
        ∀ base : Heap, (K w.params).In base → base.Ns mainGlobals mg → FnOk l.prog w (K w.params) mg base (CX w) true k fa fd [x] (sp w))
    (hsp : ∀ (w : World) (H : Hp) (a : Addr) (ns : List Int), ns.length ≤ n → Only H → SqL (K w.params) H a (ns.map V.int) → sp w [.ref a] H (fun v _ => v = .bl true) fun _ _ _ => False)
    (hCX : ∀ (w : World) (H : Hp) (s : Shared) (e : Value) (s' : Shared), CX w [] H s (fun _ _ _ => False) e s' → False) :
    PySem.W.WalkO q loose XP YP l.row.toRowW d [] (fun f vs => PySem.call f vs) := by
  refine Att.attach_call hn hdf fun w s₀ s₁ mg mb fa o pm cd doc a vs ns G Y ho hd hcd hmg hobj hints hlen hg => ?_
  have KX := hY w _ Y
  obtain ⟨fd, hb, hF⟩ := F w mg fa _ KX G.T.g hmg
  exact law_call KX G.T.g G.T.b G.T.builtins G.T.nolimit hg hobj hints (Nat.le_trans hlen hn2) hr hF hb (fun H hO hS => hsp w H a ns hlen hO hS) fun H e s' => hCX w H s₁ e s'
end L2

/- THE LAST THEOREM (shape; LID, My.* are yours):
   My.Adr: a structure of the addresses that your layer names (classes, functions); My.Txt K t: a structure (Prop) of the equations over K;
   My.txt_mk : {K} {implicit addresses ..} (e1 : nsIn K mainGlobals "law" = some (some (.ref f))) (e2 : K.lookup f = some ⟨oc, od, .func (fnOf "law" "law" params body scope dV kV doc pm an cdv ct), sl⟩) (e3 : codeIn K cdv "law" = true) .. : ∃ t, My.Txt K t

set_option maxRecDepth 100000 in
set_option maxHeartbeats 0 in
theorem PySem.Challenge.cw_LID_holds : PySem.Challenge.rw_LID.Holds := by
  w_on; o_law; k_head; (case hw => w_witness2)
  k_fill
  refine L2.walk_of (l := PySem.Challenge.rw_LID) (n := 63) (k := 40) (x := "script") (CX := fun w => ..) (sp := fun _ => My.sp_law) rfl (by decide) rfl ⟨rfl, by decide, by decide⟩ (fun w h Y => PySem.W.kIn_of Y) ?F ?S ?C
  case F =>
    intro w mg fa h KX G hmg
    have T : ∃ t, My.Txt (L2.KOf KX) t := by
      dsimp only [L2.KOf]                          -- K must stand as «<heap const> w.params» for k_is
      refine' My.txt_mk ?e1 ?e2 ?e3 ..
      (case e1 => PySem.W.k_is)                    -- in the order: a name -> its address -> its object -> its parts
      (case e2 => PySem.W.k_is)
      ..
    obtain ⟨t, T⟩ := T
    have e0 := hmg.symm.trans (PySem.W.mg_of KX G T.law)
    cases e0                                       -- fa is the law's own address
    exact ⟨_, fun s u => .of_eq rfl, fun base kb nb => My.law_fn T kb nb⟩     -- if «.of_eq rfl» comes too early: refine' ⟨_, ?b, fun base kb nb => My.law_fn T kb nb⟩; exact fun s u => .of_eq rfl
  case S => exact fun w H a ns hl hO hS => ..
  case C => exact ..
(the tactic k_is has no namespace: write k_is) -/

namespace L2
open PySem PySem.Spec PyProof.Rows

/-- the j-th statement of a class's body -/
def inClass (s : Stmt) (j : Nat) : Stmt := match s with
  | .ClassDef _ _ _ body _ _ _ _ _ _ _ => body.getD j (.Pass ⟨0, 0, 0, 0⟩)
  | _ => .Pass ⟨0, 0, 0, 0⟩
def defArgs (s : Stmt) : Arguments := match s with
  | .FunctionDef _ a _ _ _ _ _ _ _ _ => a
  | _ => { posonlyargs := [], args := [], vararg := none, kwonlyargs := [], kw_defaults := [], kwarg := none, defaults := [] }
def defBody (s : Stmt) : List Stmt := match s with
  | .FunctionDef _ _ b _ _ _ _ _ _ _ => b
  | _ => []
def defScope (s : Stmt) : Scope := match s with
  | .FunctionDef _ _ _ _ _ _ sc _ _ _ => sc
  | _ => { kind := .function, names := [], isGenerator := false, isCoroutine := false }

abbrev CX0 : CXT := fun _ _ _ _ _ _ => False
abbrev E0 : XK := fun _ _ _ => False
theorem pass0 {X : Cx} : Passes CX0 X E0 := fun _ _ _ _ _ _ _ h => h.elim

structure Fun (K : PySem.W.Frag) (x qual : Str) (st : Stmt) (f : Addr) (fd : FuncData) : Prop where
  ex : ∃ (oc : Value) (od : Option Addr) (kV doc pm : Value) (an : Option Addr) (cdv ct : Value) (osl : Array (Option Value)),
    fd = PySem.W.fnOf x qual (defArgs st) (defBody st) (defScope st) .none kV doc pm an cdv ct ∧ K.lookup f = some ⟨oc, od, .func fd, osl⟩ ∧ PySem.W.codeIn K cdv qual = true
  kp : PySem.W.keepIn K (.ref f) = true
section
variable {P : Program} {w : World} {K : PySem.W.Frag} {mg : Str → Option Value} {base : Heap}
/-- THE RULE for a def: its body as a term of rules, and the reading of that term -/
theorem Fun.ok {x qual : Str} {st : Stmt} {f : Addr} {fd : FuncData} {N ps : List Str} {k : Nat} {sp : Sp} (F : Fun K x qual st f fd) (S : FnScope N ps (defScope st)) (len : ∀ vs H Q E, sp vs H Q E → vs.length = ps.length)
    (hbody : ∀ (cdv : Value) (A : Around) (outer : List Env) (s : Shared) (H : Hp) (vs : List V) (Q : VK) (E : XK), Room cm k (A.deeper (envOfC qual (defScope st) s.heap.objs.size f cdv)) → sp vs H Q E →
      ∃ t, PSs (cxOf CX0 cm P w K mg base N qual (defScope st) f cdv A outer s H E).nox (defBody st) t ∧ t { nx := fun _ H' => Q .non H', rt := Q } (start N vs) H) : FnOk P w K mg base CX0 cm (k + 1) f fd ps sp := by
  obtain ⟨oc, od, kV, doc, pm, an, cdv, ct, osl, rfl, lk, hcd⟩ := F.ex
  refine fn_of lk hcd S len fun A outer s H vs Q E hr hsp => ?_
  obtain ⟨t, h, q⟩ := hbody cdv A outer s H vs Q E hr hsp
  exact ⟨t, h.nox, q⟩
/-- how its arguments bind (no defaults): h is «fun _ _ _ _ _ _ us hl => match us, hl with | [_, _], _ => rfl», one _ a parameter -/
theorem Fun.binds {x qual : Str} {st : Stmt} {f : Addr} {fd : FuncData} {ps : List Str} (F : Fun K x qual st f fd)
    (h : ∀ (kV doc pm : Value) (an : Option Addr) (cdv ct : Value) (us : List Value), us.length = ps.length → bindArgs (PySem.W.fnOf x qual (defArgs st) (defBody st) (defScope st) .none kV doc pm an cdv ct) ⟨us, []⟩ = pure (ps.zip us)) : Binds K fd ps [] := by
  obtain ⟨oc, od, kV, doc, pm, an, cdv, ct, osl, rfl, lk, hcd⟩ := F.ex
  exact .all (h kV doc pm an cdv ct)
end
theorem hu_of {cm : Bool} {A : Around} {k : Nat} (hr : Room cm k A) : A.units + 1 < cLine := Nat.lt_of_le_of_lt (Nat.add_le_add_left (by decide : 1 ≤ 64) _) hr.units
section
variable {X : Cx}
theorem pv (i : Nat) {x : Str} {pos : Pos} (hN : X.N[i]? = some x := by rfl) (hv : Vis X.env.scope x := by first | exact Or.inl rfl | exact Or.inr (Or.inl rfl) | exact Or.inr (Or.inr rfl)) (hd : (x == ("__debug__" : Str)) = false := by decide)
    (hcd : (x == ("__classdict__" : Str)) = false := by decide) : PE X (.Name x pos) (tVar i) := pe_var hN hv hd hcd
end

theorem iteF {A B : Prop} (h : B) : if false = true then A else B := by
  rw [if_neg Bool.false_ne_true]
  exact h
theorem iteT {A B : Prop} (h : A) : if true = true then A else B := by
  rw [if_pos rfl]
  exact h
/-- all that was tracked is as it was -/
def Same (H H' : Hp) : Prop := ∀ b o, H b = some o → H' b = some o
theorem Same.refl (H : Hp) : Same H H := fun _ _ h => h
theorem Same.trans {H H1 H2 : Hp} (a : Same H H1) (b : Same H1 H2) : Same H H2 := fun c o h => b c o (a c o h)
theorem Same.free {H H' : Hp} (e : Same H H') {l : Addr} (h : H' l = Option.none) : H l = Option.none := by
  cases q : H l with
  | none => rfl
  | some o =>
    rw [e l o q] at h
    cases h
theorem Same.seq {K : PySem.W.Frag} {H H' : Hp} {a : Addr} {xs : List V} (e : Same H H') (h : SqL K H a xs) : SqL K H' a xs := by
  rcases h with (h | ⟨o, h⟩) | h
  · exact .inl (.inl (e _ _ h))
  · exact .inl (.inr ⟨o, e _ _ h⟩)
  · exact .inr h

section
variable {κ : Type} [DecidableEq κ]
end
end L2

set_option Elab.async false
namespace L3
open PySem

/-- the record of an exception at x: its class, its own dict, the head of its trace -/
def Rec (h : Heap) (x : Addr) (C : Value) (dx : Option Addr) (tb : Value) : Prop :=
  ∃ oe vs, h.get? x = some oe ∧ oe.cls = C ∧ oe.dict = dx ∧ oe.data = .fields vs ∧ vs[1]? = some tb
/-- a record of the trace, and which frame it flies from -/
def Tra (h : Heap) (T : Addr) (fl : Value) : Prop := ∃ oT ts, h.get? T = some oT ∧ oT.data = .fields ts ∧ ts[3]? = some fl

theorem dict_mapFields (o : Obj) (f) : (o.mapFields f).dict = o.dict := by
  obtain ⟨c, d, dt, sl⟩ := o
  cases dt <;> rfl

/-- behind a change of the records in ch and of the slots in S: all else stands -/
structure Aft (S ch : List Addr) (h h' : Heap) : Prop where
  keep : ∀ b o, b ∉ S → b ∉ ch → h.get? b = some o → h'.get? b = some o
  slot : ∀ b o, b ∉ ch → h.get? b = some o → ∃ sl, h'.get? b = some { o with slots := sl }
  size : h.objs.size ≤ h'.objs.size
theorem Aft.refl (S ch : List Addr) (h : Heap) : Aft S ch h h := ⟨fun _ _ _ _ e => e, fun _ o _ e => ⟨o.slots, e⟩, Nat.le_refl _⟩
theorem Aft.trans {S ch : List Addr} {h1 h2 h3 : Heap} (a : Aft S ch h1 h2) (b : Aft S ch h2 h3) : Aft S ch h1 h3 where
  keep := fun c o hs hc e => b.keep c o hs hc (a.keep c o hs hc e)
  slot := fun c o hc e => by
    obtain ⟨s1, e1⟩ := a.slot c o hc e
    obtain ⟨s2, e2⟩ := b.slot c _ hc e1
    exact ⟨s2, e2⟩
  size := Nat.le_trans a.size b.size
theorem Aft.mono {S S' ch ch' : List Addr} {h h' : Heap} (a : Aft S ch h h') (hs : ∀ b, b ∈ S → b ∈ S') (hc : ∀ b, b ∈ ch → b ∈ ch') : Aft S' ch' h h' :=
  ⟨fun b o z1 z2 e => a.keep b o (fun q => z1 (hs b q)) (fun q => z2 (hc b q)) e, fun b o z e => a.slot b o (fun q => z (hc b q)) e, a.size⟩

section
variable {M : Model} {A : Around} {E : Value → Shared → Prop} {s : Shared}

/-- one field of a record is set -/
theorem set_rec {T : Addr} {oT : Obj} {ts : Array Value} {i : Nat} {v : Value} {Q : Unit → Shared → Prop} (hT : s.heap.get? T = some oT) (hd : oT.data = .fields ts) (hi : i < ts.size)
    (h : ∀ h', Aft [] [T] s.heap h' → h'.get? T = some (oT.mapFields (·.setIfInBounds i v)) → Q () { s with heap := h' }) : wpAny M A (setField (.ref T) i v) Q E s := by
  refine wpAny_setField hT hd hi (h _ ⟨fun b o _ hb e => ?_, fun b o hb e => ⟨o.slots, ?_⟩, ?_⟩ ?_)
  · rw [Heap.get?_update_other _ _ (fun z => hb (by simp [z]))]; exact e
  · rw [Heap.get?_update_other _ _ (fun z => hb (by simp [z]))]; exact e
  · exact Nat.le_of_eq (Heap.size_after_update ..).symm
  · exact Heap.get?_update_self _ hT (Obj.isFreed_of_fields (Obj.data_mapFields hd _))

/-- a new record of the trace ahead of head, flying from the frame at L -/
theorem new_rec {base : Heap} {env : Env} {outer : List Env} {L x : Addr} {oe : Obj} {vs : Array Value} {head : Value} {hadNext : Bool} {Q : Unit → Shared → Prop}
    (hfr : A.frames = some (env :: outer)) (hl : s.heap.FunFrames base (env :: outer)) (hf : env.frame = some L) (he : s.heap.get? x = some oe) (hd : oe.data = .fields vs) (hsz : 1 < vs.size)
    (h : ∀ h' T, Aft ((env :: outer).filterMap (·.frame)) [x] s.heap h' → s.heap.objs.size ≤ T → Rec h' x oe.cls oe.dict (.ref T) → Tra h' T (rawInt L) → Q () { s with heap := h' }) :
    wpAny M A (do let a ← frameOf env; let pl ← entryPlaceOf L hadNext; let b ← EntryCells.newEntry head a .none (rawInt L) .none pl; setField (.ref x) 1 b) Q E s := by
  have hne : x ∉ (env :: outer).filterMap (·.frame) := fun hm => by
    obtain ⟨_, o, ho, hnf⟩ := hl.mem hm
    rw [he] at ho
    cases ho
    exact hnf vs hd
  refine wpAny_bind (wpAny_frameOf_fun hfr hl hf fun h1 hs1 => ?_)
  refine wpAny_bind (wpAny_entryPlaceOf fun pl hpl => ?_)
  unfold EntryCells.newEntry newFields
  refine wpAny_bind (wpAny_newObj_type ?_ (hpl.sizeOk5 _ _ _ _ _))
  have he1 : h1.get? x = some oe := (hs1.2.1 x hne).trans he
  refine set_rec (Heap.get?_push_of_some _ he1) hd hsz fun h' a hx => ?_
  have hTx : h1.objs.size ≠ x := Nat.ne_of_gt (Heap.lt_size he1)
  refine h h' h1.objs.size ⟨fun b o hb hc e => ?_, fun b o hc e => ?_, ?_⟩ (Nat.le_of_eq hs1.1.symm) ⟨_, _, hx, Obj.cls_mapFields _ _, dict_mapFields _ _, Obj.data_mapFields hd _, by simp [hsz]⟩ ?_
  · exact a.keep b o (by simp) hc (Heap.get?_push_of_some _ ((hs1.2.1 b hb).trans e))
  · obtain ⟨sl, e1⟩ := hs1.2.2 b o e
    exact ⟨sl, a.keep b _ (by simp) hc (Heap.get?_push_of_some _ e1)⟩
  · refine Nat.le_trans ?_ a.size
    show s.heap.objs.size ≤ (h1.push _).objs.size
    rw [Heap.size_push, hs1.1]
    exact Nat.le_succ _
  · refine ⟨_, _, a.keep _ _ (by simp) (by simp [hTx]) (Heap.get?_push_size h1 rfl), rfl, ?_⟩
    first | (simp; done) | (rcases hpl with rfl | ⟨_, _, _, _, _, _, _, rfl⟩ <;> simp)

/-- the frame is noted in an exception that was just made -/
theorem note_new {base : Heap} {env : Env} {outer : List Env} {L x : Addr} {C : Value} {dx : Option Addr} {Q : Unit → Shared → Prop}
    (hfr : A.frames = some (env :: outer)) (hl : s.heap.FunFrames base (env :: outer)) (hf : env.frame = some L) (r : Rec s.heap x C dx .none)
    (h : ∀ h' T, Aft ((env :: outer).filterMap (·.frame)) [x] s.heap h' → s.heap.objs.size ≤ T → Rec h' x C dx (.ref T) → Tra h' T (rawInt L) → Q () { s with heap := h' }) :
    wpAny M A (noteFrame (.ref x) env) Q E s := by
  obtain ⟨oe, vs, he, rfl, rfl, hd, h1⟩ := r
  unfold noteFrame
  simp only [hf]
  refine wpAny_bind (wpAny_field he hd h1 ?_)
  rw [if_neg (by decide)]
  exact new_rec hfr hl hf he hd (Array.getElem?_eq_some_iff.mp h1).1 h
/-- .. in one that flies from anywhere -/
theorem note_any {base : Heap} {env : Env} {outer : List Env} {L x T : Addr} {C : Value} {dx : Option Addr} {fl : Value} {Q : Unit → Shared → Prop}
    (hfr : A.frames = some (env :: outer)) (hl : s.heap.FunFrames base (env :: outer)) (hf : env.frame = some L) (r : Rec s.heap x C dx (.ref T)) (hx : T ≠ x) (t : Tra s.heap T fl)
    (h : ∀ h' T' fl', Aft ((env :: outer).filterMap (·.frame)) [x, T] s.heap h' → (T' = T ∨ s.heap.objs.size ≤ T') → Rec h' x C dx (.ref T') → Tra h' T' fl' → Q () { s with heap := h' }) :
    wpAny M A (noteFrame (.ref x) env) Q E s := by
  obtain ⟨oe, vs, he, rfl, rfl, hd, h1⟩ := r
  obtain ⟨oT, ts, hT, hdT, h3⟩ := t
  unfold noteFrame
  simp only [hf]
  refine wpAny_bind (wpAny_field he hd h1 ?_)
  rw [if_pos (show (Value.ref T != Value.none) = true from by simp)]
  refine wpAny_bind (wpAny_field hT hdT h3 ?_)
  by_cases hb : (fl == rawInt L) = true
  · rw [if_pos hb]
    exact wpAny_pure (h s.heap T fl (Aft.refl ..) (.inl rfl) ⟨oe, vs, he, rfl, rfl, hd, h1⟩ ⟨oT, ts, hT, hdT, h3⟩)
  rw [if_neg hb]
  refine wpAny_bind (set_rec hT hdT (Array.getElem?_eq_some_iff.mp h3).1 fun h2 a2 e2 => ?_)
  have nT : ∀ b o, s.heap.get? b = some o → (∀ ws, o.data ≠ .fields ws) → b ∉ [T] := fun b o e hn z => by
    have z' : b = T := by simpa using z
    rw [z', hT] at e
    cases e
    exact hn ts hdT
  refine new_rec hfr (hl.of_keeps fun b o e hn => ⟨o, a2.keep b o (by simp) (nT b o e hn) e, rfl⟩) hf (a2.keep x oe (by simp) (by simp [Ne.symm hx]) he) hd (Array.getElem?_eq_some_iff.mp h1).1 fun h' T' a r' t' l => ?_
  refine h h' T' _ (Aft.trans (a2.mono (by simp) (by simp)) (a.mono (fun _ z => z) (by simp))) (.inr (Nat.le_trans a2.size r')) t' l
/-- it flies from nowhere now -/
theorem flight_none {x T : Addr} {C : Value} {dx : Option Addr} {fl : Value} {Q : Unit → Shared → Prop} (r : Rec s.heap x C dx (.ref T)) (hx : T ≠ x) (t : Tra s.heap T fl)
    (h : ∀ h', Aft [] [T] s.heap h' → Rec h' x C dx (.ref T) → Tra h' T .none → Q () { s with heap := h' }) : wpAny M A (setFlight (.ref x) none) Q E s := by
  obtain ⟨oe, vs, he, rfl, rfl, hd, h1⟩ := r
  obtain ⟨oT, ts, hT, hdT, h3⟩ := t
  unfold setFlight
  refine wpAny_bind (wpAny_field he hd h1 ?_)
  rw [if_pos (show (Value.ref T != Value.none) = true from by simp)]
  have h3' := (Array.getElem?_eq_some_iff.mp h3).1
  refine set_rec hT hdT h3' fun h2 a2 e2 => h h2 a2 ⟨oe, vs, a2.keep x oe (by simp) (by simp [Ne.symm hx]) he, rfl, rfl, hd, h1⟩ ⟨_, _, e2, Obj.data_mapFields hdT _, ?_⟩
  simp [h3']
end
end L3

set_option Elab.async false
set_option maxRecDepth 100000
namespace L3
open PySem

/-- what is read off the heap h, and stays so while h's objects do -/
def Rds {α : Type} (M : Model) (h : Heap) (t : Sem α) (r : α) : Prop :=
  ∀ (A : Around) (Q : α → Shared → Prop) (E : Value → Shared → Prop) (s : Shared), (∀ b o, h.get? b = some o → s.heap.get? b = some o) → Q r s → wpAny M A t Q E s

/-- an own class of exceptions below ValueError, as it lies in the heap -/
structure XC (h : Heap) (C : Addr) (bm : List Value) : Prop where
  at_ : ∃ nm q N bs sn sub ab col dd k0 k1 k2 k3 k5, h.get? C = some (excClassObj nm q C N bs bm true sn sub ab col dd k0 k1 k2 k3 k5 "ValueError.__new__")
  val : bm.contains (.type "ValueError") = true
  bas : bm.contains (.type "BaseException") = true
  ob : bm.contains (.type "object") = true
  noA : bm.contains (.type "AttributeError") = false
  noN : bm.contains (.type "NameError") = false
theorem XC.keeps {h h' : Heap} {C : Addr} {bm : List Value} (x : XC h C bm) (k : ∀ b o, h.get? b = some o → h'.get? b = some o) : XC h' C bm := by
  obtain ⟨⟨nm, q, N, bs, sn, sub, ab, col, dd, k0, k1, k2, k3, k5, e⟩, h1, h2, h3, h4, h5⟩ := x
  exact ⟨⟨nm, q, N, bs, sn, sub, ab, col, dd, k0, k1, k2, k3, k5, k _ _ e⟩, h1, h2, h3, h4, h5⟩
theorem has_more {C : Addr} {bm : List Value} {T : String} {b : Bool} (h : bm.contains (.type T) = b) : (Value.ref C :: bm).contains (.type T) = b := by
  rw [List.contains_cons, h]
  cases b <;> rfl

section
variable {P : Program} {w : World} {A : Around} {E : Value → Shared → Prop} {h : Heap} {g : Array GenState} {d : Drawn} {t : Nat} {os : OsState} {C : Addr} {bm : List Value}

theorem new_check {M : Model} {more : List Value} {Q : Unit → Shared → Prop} (x : XC h C bm) (hq : Q () ⟨h, g, d, t, os⟩) : wpAny M A (checkBuiltinCall "ValueError.__new__" ⟨.ref C :: more, []⟩) Q E ⟨h, g, d, t, os⟩ := by
  obtain ⟨⟨nm, q, N, bs, sn, sub, ab, col, dd, k0, k1, k2, k3, k5, cC⟩, val, bas, _, _, _⟩ := x
  have F := PySem.F.excBase_ValueError
  have c1 : (Value.ref C :: bm).contains (.type "ValueError") = true := has_more val
  have star := F.noStar
  simp only [checkBuiltinCall, F.newKind, F.newSplit, F.newRow]
  repeat (first
    | refine wpAny_loadPart_at cC ?_
    | (refine wpAny_isSubtype_exc cC ?_; rw [c1])
    | refine wpAny_staticBase_exc cC ?_
    | refine wpAny_madeBy_exc cC ?_
    | simp only [bne_self_eq_false, Bool.false_eq_true, if_false]
    | wp_step)
  exact hq

theorem new_run {more : List Value} {R : Result → Shared → Prop} (x : XC h C bm)
    (hq : R (.ok (.ret (.ref (h.objs.size + 1)))) ⟨(h.push { cls := .type "tuple", data := .seq more.toArray }).push { cls := .ref C, data := .fields #[.ref h.objs.size, .none, .none, .none, .bool false, .none] }, g, d, t, os⟩)
    (hrest : more.length ≤ sizeLine) : codeAny (model P w) A (.builtin "ValueError.__new__" ⟨.ref C :: more, []⟩) R ⟨h, g, d, t, os⟩ := by
  obtain ⟨⟨nm, q, N, bs, sn, sub, ab, col, dd, k0, k1, k2, k3, k5, cC⟩, val, bas, _, noA, noN⟩ := x
  have F := PySem.F.excBase_ValueError
  have ends := F.ends
  have c1 : (Value.ref C :: bm).contains (.type "ValueError") = true := has_more val
  have c2 : (Value.ref C :: bm).contains (.type "AttributeError") = false := has_more noA
  have c3 : (Value.ref C :: bm).contains (.type "NameError") = false := has_more noN
  refine codeAny_builtinAt F.entry ?_
  unfold Builtin.«BaseException.__new__»
  refine wpAt_bind ?_
  show wpAt _ _ _ (stack >>= _) _ _ _
  refine wpAt_bind (wpAt_stack fun p below => wpAt_of_wpAny ?_)
  wp_walk
  refine wpAt_of_wpAny ?_
  rw [F.owner]
  repeat (first
    | with_reducible refine wpAny_madeHere_exc F.canon cC ?_
    | with_reducible refine wpAny_loadPart_at cC ?_
    | (with_reducible refine wpAny_isSubtype_exc cC ?_; first | rw [c1] | rw [c2] | rw [c3])
    | wp_step)
  show R _ _
  rw [Heap.size_push]
  exact hq

theorem init_check {M : Model} {e : Addr} {oe : Obj} {more : List Value} {Q : Unit → Shared → Prop} (x : XC h C bm) (he : h.get? e = some oe) (hc : oe.cls = .ref C) (hq : Q () ⟨h, g, d, t, os⟩) :
    wpAny M A (checkBuiltinCall "ValueError.__init__" ⟨.ref e :: more, []⟩) Q E ⟨h, g, d, t, os⟩ := by
  obtain ⟨⟨nm, q, N, bs, sn, sub, ab, col, dd, k0, k1, k2, k3, k5, cC⟩, val, _, _, _, _⟩ := x
  have F := PySem.F.excBase_ValueError
  have c1 : (Value.ref C :: bm).contains (.type "ValueError") = true := has_more val
  have star := F.noStar
  simp only [checkBuiltinCall, F.initKind, F.initSplit, F.initRow]
  repeat (first
    | (with_reducible refine wpAny_loadPart_at he ?_; rw [hc])
    | with_reducible refine wpAny_loadPart_at cC ?_
    | (with_reducible refine wpAny_isSubtype_exc cC ?_; rw [c1])
    | wp_step)
  refine wpAny_onRaise ?_
  rw [show ∀ (a b : String) (n : Nat), Bind.check ⟨.positional, "*", "ValueError", .self, [⟨"args", .varPos, false⟩]⟩ a b n (List.map (fun x => x.fst) ({ pos := Value.ref e :: more } : Args).kw) = pure () from fun a b n => check_star_args _ _ _ _ _ _]
  exact wpAny_pure hq

/-- the class is called: the exception is made, then __init__ runs, which is iv -/
theorem class_run {iv : Value} {more : List Value} {Q : PySem.Fin → Shared → Prop} (x : XC h C bm) (li : Rds (model P w) h (typeLookup (.ref C) "__init__") (some iv))
    (hrest : more.length ≤ sizeLine)
    (hq : ∀ h' e, Heap.MadeExcOf h h' e (.ref C) more → h.objs.size ≤ e → wpAny (model P w) A (bindSpecial iv (.ref e)) (fun p s1 => wpAny (model P w) A (call p.1 (p.2 ++ more)) (fun r s2 => r = .none ∧ Q (.done (.ret (.ref e))) s2) E s1) E ⟨h', g, d, t, os⟩) :
    wpAny (model P w) A (Builtin.«type.__call__» ⟨.ref C :: more, []⟩) Q E ⟨h, g, d, t, os⟩ := by
  have x0 := x
  obtain ⟨⟨nm, q, N, bs, sn, sub, ab, col, dd, k0, k1, k2, k3, k5, cC⟩, val, bas, _, noA, noN⟩ := x
  have F := PySem.F.excBase_ValueError
  repeat (first
    | with_reducible refine wpAny_loadPart_at cC ?_
    | with_reducible refine wpAny_madeBy_exc cC ?_
    | wp_step)
  refine codeAny_call_builtin_code (Code.quiet_builtin _ F.quiet) (new_check x0 ?_)
  refine new_run x0 ?_ hrest
  show wpAny _ _ _ _ _ _
  have up : ∀ b o, h.get? b = some o → ((h.push { cls := .type "tuple", data := .seq more.toArray }).push { cls := .ref C, data := .fields #[.ref h.objs.size, .none, .none, .none, .bool false, .none] }).get? b = some o :=
    fun b o e => Heap.get?_push_of_some _ (Heap.get?_push_of_some _ e)
  have cC1 := up _ _ cC
  have here : ((h.push { cls := .type "tuple", data := .seq more.toArray }).push { cls := .ref C, data := .fields #[.ref h.objs.size, .none, .none, .none, .bool false, .none] }).get? (h.objs.size + 1) =
      some { cls := .ref C, data := .fields #[.ref h.objs.size, .none, .none, .none, .bool false, .none] } := by heap_get
  have c0 : (Value.ref C :: bm).contains (.ref C) = true := by simp
  unfold isInstance
  repeat (first
    | with_reducible refine wpAny_loadPart_at here ?_
    | (with_reducible refine wpAny_isSubtype_exc cC1 ?_; rw [c0])
    | wp_step)
  show wpAny _ _ (typeLookup (.ref C) _) _ _ _
  refine li _ _ _ _ up ?_
  refine wpAny_holding (wpAny_bind (wpAny_mono (hq _ (h.objs.size + 1) ⟨up, Heap.get?_none_of_le (Nat.le_succ _), h.objs.size, here, Heap.get?_none_of_le (Nat.le_refl _), ?_⟩ (Nat.le_succ _)) (fun p s1 h1 => ?_) fun _ _ z => z))
  · exact Heap.get?_push_of_some _ (Heap.get?_push_at rfl rfl)
  · obtain ⟨p1, p2⟩ := p
    refine wpAny_bind (wpAny_mono h1 (fun r s2 hr => ?_) fun _ _ z => z)
    obtain ⟨rfl, hQ⟩ := hr
    wp_walk
    exact hQ
end
end L3

set_option Elab.async false
set_option maxRecDepth 100000
namespace L3
open PySem
section
variable {P : Program} {w : World} {A : Around} {E : Value → Shared → Prop} {h : Heap} {g : Array GenState} {d : Drawn} {t : Nat} {os : OsState} {C : Addr} {bm : List Value}

theorem class_call {iv : Value} {more : List Value} {Q : Value → Shared → Prop} (x : XC h C bm) (li : Rds (model P w) h (typeLookup (.ref C) "__init__") (some iv)) (hrest : more.length ≤ sizeLine)
    (hq : ∀ h' e, Heap.MadeExcOf h h' e (.ref C) more → h.objs.size ≤ e → wpAny (model P w) (A.under (.builtin "type.__call__" ⟨.ref C :: more, []⟩)) (bindSpecial iv (.ref e))
      (fun p s1 => wpAny (model P w) (A.under (.builtin "type.__call__" ⟨.ref C :: more, []⟩)) (call p.1 (p.2 ++ more)) (fun r s2 => r = .none ∧ Q (.ref e) s2) E s1) E ⟨h', g, d, t, os⟩) :
    wpAny (model P w) A (call (.ref C) more) Q E ⟨h, g, d, t, os⟩ := by
  have x0 := x
  obtain ⟨⟨nm, q, N, bs, sn, sub, ab, col, dd, k0, k1, k2, k3, k5, cC⟩, _⟩ := x
  have f1 := tc_lookup
  have f2 := tc_bind (.ref C)
  have ty : (⟨h, g, d, t, os⟩ : Shared).TypeIs (.ref C) "type" := ⟨_, cC, rfl⟩
  refine wpAny_call (codeAny_of_tree ?_)
  show wpAny _ _ (callAny (.ref C) _) _ _ _
  repeat (any_goals (first
    | assumption
    | with_reducible refine wpAny_loadPart_at cC ?_
    | wp_step))
  refine ⟨rfl, ?_⟩
  exact codeAny_call_builtin_at (Code.quiet_builtin _ (by decide +kernel)) entry_typeCall (wpAny_check_type_call_sub cC (class_run x0 li hrest fun h' e hm hs => hq h' e hm hs))

/-- what stands behind the making: the exception, bare of a trace -/
def Bare (s : Shared) (e C : Addr) : Prop := ∃ dx t, s.heap.get? e = some { cls := .ref C, dict := dx, data := .fields #[.ref t, .none, .none, .none, .bool false, .none] }

theorem raise_run {env : Env} {s : Shared} {x : Sem Value} {Q : Flow → Shared → Prop} (hh : A.handled = none)
    (hx : wpAny (model P w) A x (fun v s1 => ∃ e, v = .ref e ∧ XC s1.heap C bm ∧ Bare s1 e C ∧ E (.ref e) s1) E s) : wpAny (model P w) A (raiseStmt env (some x) none) Q E s := by
  unfold raiseStmt
  refine wpAny_bind (wpAny_mono hx (fun v s1 h1 => ?_) fun _ _ z => z)
  obtain ⟨e, rfl, xc, ⟨dx, tt, he⟩, hE⟩ := h1
  obtain ⟨⟨nm, q, N, bs, sn, sub, ab, col, dd, k0, k1, k2, k3, k5, cC⟩, _, bas, _⟩ := xc
  have c1 : (Value.ref C :: bm).contains (.type "BaseException") = true := has_more bas
  obtain ⟨hp, g1, d1, tk, os1⟩ := s1
  repeat (first
    | with_reducible refine wpAny_loadPart_at he ?_
    | with_reducible refine wpAny_loadPart_at cC ?_
    | (with_reducible refine wpAny_isSubtype_exc cC ?_; rw [c1])
    | wp_step)
  exact wpAny_raiseNew_none hh hE

/-- raise C(..) -/
theorem raise_call {env : Env} {s : Shared} {x : Str} {np cpos pos : Pos} {args : List Expr} {iv : Value} {Q : Flow → Shared → Prop} (hh : A.handled = none) (hplain : (backTo cpos (starEach args env)).any (·.1) = false)
    (hx : wpAny (model P w) A (eval (.Name x np) env) (fun f s1 => f = .ref C ∧ wpAny (model P w) A (evalArgs (.ref C) true (backTo cpos (starEach args env)) [])
      (fun a s2 => a.kw = [] ∧ a.pos.length ≤ sizeLine ∧ XC s2.heap C bm ∧ Rds (model P w) s2.heap (typeLookup (.ref C) "__init__") (some iv) ∧
        ∀ h' e, Heap.MadeExcOf s2.heap h' e (.ref C) a.pos → s2.heap.objs.size ≤ e → wpAny (model P w) (A.under (.builtin "type.__call__" ⟨.ref C :: a.pos, []⟩)) (bindSpecial iv (.ref e))
          (fun p s3 => wpAny (model P w) (A.under (.builtin "type.__call__" ⟨.ref C :: a.pos, []⟩)) (call p.1 (p.2 ++ a.pos)) (fun r s4 => r = .none ∧ XC s4.heap C bm ∧ Bare s4 e C ∧ E (.ref e) s4) E s3) E { s2 with heap := h' }) E s1) E s) :
    wpAny (model P w) A (exec (.Raise (some (.Call (.Name x np) args [] cpos)) none pos) env) Q E s := by
  rw [arm_exec_Raise]
  have go : wpAny (model P w) A (eval (.Call (.Name x np) args [] cpos) env) (fun v s1 => ∃ e, v = .ref e ∧ XC s1.heap C bm ∧ Bare s1 e C ∧ E (.ref e) s1) E s := by
    refine wpAny_Call_ofName (wpAny_mono hx (fun f s1 h1 => ?_) fun _ _ z => z)
    obtain ⟨rfl, h1⟩ := h1
    unfold callWith
    refine wpAny_bind (wpAny_holding (wpAny_mono h1 (fun a s2 h2 => wpAny_bind (wpAny_standAt ?_)) fun _ _ z => z))
    obtain ⟨ap, ak⟩ := a
    obtain ⟨hkw, hlen, xc, li, h2⟩ := h2
    obtain rfl : ak = [] := hkw
    obtain ⟨hp, g1, d1, tk, os1⟩ := s2
    simp only [hplain]
    obtain ⟨⟨nm, q, N, bs, sn, sub, ab, col, dd, k0, k1, k2, k3, k5, cC⟩, _⟩ := id xc
    refine wpAny_bind (wpAny_keeperOf_exc cC ?_)
    refine wpAny_bind (class_call xc li hlen fun h' e hm hs => wpAny_mono (h2 h' e hm hs) (fun p s3 h3 => wpAny_mono h3 (fun r s4 h4 => ?_) fun _ _ z => z) fun _ _ z => z)
    exact ⟨h4.1, wpAny_bind (wpAny_holding (wpAny_point (wpAny_pure ⟨e, rfl, h4.2⟩)))⟩
  first
    | refine wpAny_bind (wpAny_standAt (raise_run (C := C) (bm := bm) hh (wpAny_bind (wpAny_mono go (fun v s3 h3 => wpAny_bind (wpAny_standAt (wpAny_pure h3))) fun _ _ z => z))))
    | (simp only [evalOpt, Option.map]; refine wpAny_bind (wpAny_standAt (raise_run (C := C) (bm := bm) hh (wpAny_bind (wpAny_mono go (fun v s3 h3 => wpAny_bind (wpAny_standAt (wpAny_pure h3))) fun _ _ z => z)))))
end
end L3

set_option Elab.async false
set_option maxRecDepth 100000
namespace L3
open PySem
section
variable {P : Program} {w : World} {A : Around} {E : Value → Shared → Prop} {h h' : Heap} {g : Array GenState} {d : Drawn} {t : Nat} {os : OsState} {C : Addr} {bm : List Value}

/-- ValueError's own __init__ -/
theorem plain_init {e : Addr} {more : List Value} {Q : Shared → Prop} (hm : Heap.MadeExcOf h h' e (.ref C) more) (xc : XC h' C bm) (hrest : more.length ≤ sizeLine)
    (hq : ∀ h2, Heap.MadeExcOf h h2 e (.ref C) more → (∀ b o, h.get? b = some o → h2.get? b = some o) → Q ⟨h2, g, d, t, os⟩) :
    wpAny (model P w) A (bindSpecial (.builtin "ValueError.__init__") (.ref e)) (fun p s1 => wpAny (model P w) A (call p.1 (p.2 ++ more)) (fun r s2 => r = .none ∧ Q s2) E s1) E ⟨h', g, d, t, os⟩ := by
  have F := PySem.F.excBase_ValueError
  obtain ⟨tt, he, htn, ht⟩ := hm.there
  refine wpAny_of_eq (F.init.bind _) ?_
  refine wpAny_call (codeAny_call_builtin F.init.plain F.initEntry (init_check xc he rfl ?_))
  wp_walk
  refine ⟨rfl, hq _ ⟨fun b o hb => ?_, hm.new, h'.objs.size, ?_, ?_, ?_⟩ fun b o hb => ?_⟩
  · have hb' := hm.keeps b o hb
    have hne : e ≠ b := fun z => by rw [← z, hm.new] at hb; cases hb
    rw [Heap.get?_update_other _ _ hne]
    exact Heap.get?_push_of_some _ hb'
  · rw [Heap.get?_update_self _ (Heap.get?_push_of_some _ he) rfl]
    rfl
  · cases q : h.get? h'.objs.size with
    | none => rfl
    | some o => exact absurd (Heap.lt_size (hm.keeps _ _ q)) (Nat.lt_irrefl _)
  · rw [Heap.get?_update_other _ _ (Nat.ne_of_lt (Heap.lt_size he))]
    exact Heap.get?_push_size _ rfl
  · have hb' := hm.keeps b o hb
    have hne : e ≠ b := fun z => by rw [← z, hm.new] at hb; cases hb
    rw [Heap.get?_update_other _ _ hne]
    exact Heap.get?_push_of_some _ hb'
end
end L3

set_option Elab.async false
set_option maxRecDepth 100000
namespace L3
open PySem Builtin Builtin.ObjectAttr
section
variable {P : Program} {w : World} {A : Around} {E : Value → Shared → Prop} {h : Heap} {g : Array GenState} {d : Drawn} {t : Nat} {os : OsState} {C x : Addr} {bm : List Value}
  {mA : Str → Option Value} {name : Str} {v : Value} {B : String} {bmB : List Value}

theorem Rds.go {α : Type} {M : Model} {r : α} {u : Sem α} {s : Shared} {Q : α → Shared → Prop} (l : Rds M h u r) (k : ∀ b o, h.get? b = some o → s.heap.get? b = some o) (q : Q r s) : wpAny M A u Q E s := l A Q E s k q
/-- behind the store: the instance has the attribute; what else stood stands; the object itself but for its dict -/
def Stored (h : Heap) (x C : Addr) (mA : Str → Option Value) (name : Str) (v : Value) (h' : Heap) : Prop :=
  h'.Inst x C (fun y => if y = name then some v else mA y) ∧
  (∀ b o, b ≠ x → (∀ o0 dx, h.get? x = some o0 → o0.dict = some dx → b ≠ dx) → h.get? b = some o → h'.get? b = some o) ∧
  (∀ o0, h.get? x = some o0 → ∃ o1, h'.get? x = some o1 ∧ o1.cls = o0.cls ∧ o1.data = o0.data ∧ o1.slots = o0.slots ∧ ∀ dx, o0.dict = some dx → o1.dict = some dx) ∧
  (∀ o0, h.get? x = some o0 → o0.dict = none → ∃ o1, h'.get? x = some o1 ∧ o1.dict = some h.objs.size)

theorem set_check {M : Model} {o : Obj} {nameV : Value} {Q : Unit → Shared → Prop} (SF : StoreFacts B bmB "object.__setattr__" "object") (xc : XC h C bm) (hx : h.get? x = some o) (hc : o.cls = .ref C)
    (hq : Q () ⟨h, g, d, t, os⟩) : wpAny M A (checkBuiltinCall "object.__setattr__" ⟨[.ref x, nameV, v], []⟩) Q E ⟨h, g, d, t, os⟩ := by
  obtain ⟨⟨nm, q, N, bs, sn, sub, ab, col, dd, k0, k1, k2, k3, k5, cC⟩, _, _, ob, _, _⟩ := xc
  have c1 : (Value.ref C :: bm).contains (.type "object") = true := has_more ob
  simp only [checkBuiltinCall, SF.kind, SF.split]
  refine wpAny_bind ?_
  · unfold isInstance
    repeat (first
      | (with_reducible refine wpAny_loadPart_at hx ?_; rw [hc])
      | (with_reducible refine wpAny_isSubtype_exc cC ?_; rw [c1])
      | wp_step)
    exact hq

theorem set_entry {tk : Tok} {Q : PySem.Fin → Shared → Prop} {ns : List Str} (xc : XC h C bm) (hpass : ∀ self, refuseLoop self "__setattr__" bm = pure ()) (la : Rds (model P w) h (typeLookup (.ref C) name) none) (I : h.Inst x C mA)
    (hw : Within mA ns) (hsz : ns.length ≤ sizeLine) (hq : ∀ h' tk', Stored h x C mA name v h' → Q (.done (.ret .none)) ⟨h', g, d, tk', os⟩) :
    wpAny (model P w) A (Builtin.«object.__setattr__» ⟨[.ref x, .str name tk, v], []⟩) Q E ⟨h, g, d, t, os⟩ := by
  obtain ⟨⟨nm, q, N, bs, sn, sub, ab, col, dd, k0, k1, k2, k3, k5, cC⟩, _⟩ := xc
  obtain ⟨o, hx, hc, hnc, hd⟩ := I
  have hp := hpass (.ref x)
  unfold Builtin.«object.__setattr__»
  repeat (first
    | rw [refuse_eq]
    | (rw [refuseLoop_ref, hp])
    | (with_reducible refine wpAny_loadPart_at hx ?_; rw [hc])
    | with_reducible refine wpAny_mroOf_exc cC ?_
    | with_reducible refine Rds.go la (fun _ _ z => z) ?_
    | wp_step)
  rcases hd with ⟨hdn, hmA⟩ | ⟨dx, hdx, hne, hns⟩
  · rw [hdn, if_neg (by simp [typeHasDict])]
    split
    · rename_i z
      cases z
    split
    · rename_i c z
      exact absurd z (hnc c)
    · have hx1 : (h.push { cls := .type "dict", data := .dict #[] }).get? x = some o := Heap.get?_push_of_some _ hx
      have hxs : x ≠ h.objs.size := Nat.ne_of_lt (Heap.lt_size hx)
      refine wpAny_bind (wpAny_alloc' ?_)
      refine wpAny_bind (wpAny_update' hx1 ?_)
      refine wpAny_pure ?_
      have g1 : ((h.push { cls := .type "dict", data := .dict #[] }).update x fun o => { cls := o.cls, dict := some h.objs.size, data := o.data, slots := o.slots }).get? h.objs.size =
          some { cls := .type "dict", data := .dict #[] } := (Heap.get?_update_ne _ _ _ _ hxs.symm).trans (Heap.get?_push_at rfl rfl)
      have g2 : ((h.push { cls := .type "dict", data := .dict #[] }).update x fun o => { cls := o.cls, dict := some h.objs.size, data := o.data, slots := o.slots }).Ns h.objs.size (fun _ => none) :=
        ⟨_, #[], _, g1, rfl, (fun e he => absurd he (by simp)), fun _ => rfl⟩
      show wpAny _ _ (storeInDict h.objs.size (.str name tk) name v) _ _ _
      unfold storeInDict newKeyGuard
      refine wpAny_bind (wpAny_pure (wpAny_bind (wpAny_nsSet1 (Heap.Ns1.of_empty g2) fun h' hn' hs => ?_)))
      obtain ⟨oD, esD, epD, hoD, hdD, hcD⟩ := hn'.count (Within.cons name v Within.nil)
      refine wpAny_bind (wpAny_lookBehind hoD (by rw [hdD]; exact pastItsLine_dict (Nat.le_trans hcD (by rw [List.length_cons, List.length_nil, sizeLine_eq]; omega))) ?_)
      wp_walk
      have hx' : h'.get? x = some { cls := o.cls, dict := some h.objs.size, data := o.data, slots := o.slots } := by
        refine (hs.2 x hxs).trans (Heap.get?_update_self _ hx1 ?_)
        have fr := (Heap.get?_some_iff.mp hx).2
        obtain ⟨oc, od, odt, osl⟩ := o
        cases odt <;> first | rfl | exact fr
      refine hq h' _ ⟨⟨_, hx', hc, hnc, .inr ⟨h.objs.size, rfl, hxs.symm, ?_⟩⟩, fun b ob hbx _ hb => ?_, fun o0 h0 => ?_, fun o0 h0 _ => ⟨_, hx', rfl⟩⟩
      · obtain ⟨o', es, ep, e1, e2, e3, eu, e4⟩ := hn'
        exact ⟨o', es, ep, e1, e2, e3, eu, fun y => by rw [e4 y]; by_cases hy : y = name <;> simp [hy, hmA]⟩
      · exact (hs.2 b (Nat.ne_of_lt (Heap.lt_size hb))).trans ((Heap.get?_update_ne _ _ _ _ hbx).trans (Heap.get?_push_of_some _ hb))
      · obtain rfl : o = o0 := Option.some.inj (hx.symm.trans h0)
        exact ⟨_, hx', rfl, rfl, rfl, fun dx e => by rw [hdn] at e; cases e⟩
  · rw [hdx]
    refine wpAny_pure ?_
    show wpAny _ _ (storeInDict dx (.str name tk) name v) _ _ _
    unfold storeInDict newKeyGuard
    refine wpAny_bind (wpAny_pure (wpAny_bind (wpAny_nsSet1 hns fun h' hn' hs => ?_)))
    obtain ⟨oD, esD, epD, hoD, hdD, hcD⟩ := hn'.count (Within.cons name v hw)
    refine wpAny_bind (wpAny_lookBehind hoD (by rw [hdD]; exact pastItsLine_dict (Nat.le_trans hcD (by rw [List.length_cons]; omega))) ?_)
    wp_walk
    refine hq h' _ ⟨⟨o, (hs.2 x hne.symm).trans hx, hc, hnc, .inr ⟨dx, hdx, hne, hn'⟩⟩, fun b ob _ hbd hb => ?_, fun o0 h0 => ⟨o0, (hs.2 x hne.symm).trans h0, rfl, rfl, rfl, fun _ e => e⟩, fun o0 h0 hn0 => ?_⟩
    · exact (hs.2 b (hbd o dx hx hdx)).trans hb
    · obtain rfl : o = o0 := Option.some.inj (hx.symm.trans h0)
      rw [hdx] at hn0
      cases hn0

/-- x.name = v -/
theorem set_attr {Q : Unit → Shared → Prop} {ns : List Str} (SF : StoreFacts B bmB "object.__setattr__" "object") (xc : XC h C bm) (hpass : ∀ self, refuseLoop self "__setattr__" bm = pure ())
    (ls : Rds (model P w) h (typeLookup (.ref C) "__setattr__") (some (.builtin "object.__setattr__"))) (la : Rds (model P w) h (typeLookup (.ref C) name) none) (I : h.Inst x C mA) (hw : Within mA ns) (hsz : ns.length ≤ sizeLine)
    (hq : ∀ h' tk', Stored h x C mA name v h' → Q () ⟨h', g, d, tk', os⟩) : wpAny (model P w) A (setAttr (.ref x) name v) Q E ⟨h, g, d, t, os⟩ := by
  obtain ⟨o, hx, hc, _⟩ := id I
  have f3 := SF.slot.bind (.ref x)
  unfold setAttr callSpecial? specialOf
  repeat (any_goals (first
    | assumption
    | (with_reducible refine wpAny_loadPart_at hx ?_; rw [hc])
    | with_reducible refine Rds.go ls (fun _ _ z => z) ?_
    | wp_step))
  refine codeAny_call_builtin SF.slot.plain SF.entry (set_check SF xc hx hc (set_entry xc hpass la I hw hsz fun h' tk' st => ?_))
  repeat (any_goals (first | assumption | wp_step))
  exact hq h' tk' st
end
end L3

set_option Elab.async false
set_option maxRecDepth 100000
namespace L3
open PySem Builtin Builtin.ObjectAttr
section
variable {P : Program} {w : World} {A : Around} {E : Value → Shared → Prop} {h : Heap} {g : Array GenState} {d : Drawn} {t : Nat} {os : OsState} {C x dx : Addr} {bm : List Value}
  {mA : Str → Option Value} {name : Str} {v : Value} {o : Obj} {vs : Array Value}

theorem get_check {M : Model} {nameV : Value} {Q : Unit → Shared → Prop} (xc : XC h C bm) (hx : h.get? x = some o) (hc : o.cls = .ref C) (hq : Q () ⟨h, g, d, t, os⟩) :
    wpAny M A (checkBuiltinCall "BaseException.__getattribute__" ⟨[.ref x, nameV], []⟩) Q E ⟨h, g, d, t, os⟩ := by
  obtain ⟨⟨nm, q, N, bs, sn, sub, ab, col, dd, k0, k1, k2, k3, k5, cC⟩, _, bas, _, _, _⟩ := xc
  have f1 : builtinKind "BaseException.__getattribute__" = some .slot := by decide +kernel
  have f2 : splitId "BaseException.__getattribute__" = some ("BaseException", "__getattribute__") := by decide +kernel
  have c1 : (Value.ref C :: bm).contains (.type "BaseException") = true := has_more bas
  have ha := PySem.F.args_bexc_ga (.ref x) nameV
  simp only [checkBuiltinCall, f1, f2]
  refine wpAny_bind ?_
  unfold isInstance
  repeat (first
    | (with_reducible refine wpAny_loadPart_at hx ?_; rw [hc])
    | (with_reducible refine wpAny_isSubtype_exc cC ?_; rw [c1])
    | wp_step)
  exact hq

theorem get_entry {tk : Tok} {Q : PySem.Fin → Shared → Prop} (xc : XC h C bm) (la : Rds (model P w) h (typeLookup (.ref C) name) none) (hx : h.get? x = some o) (hc : o.cls = .ref C) (hd : o.data = .fields vs) (hdx : o.dict = some dx)
    (hn : h.Ns1 dx mA) (hv : mA name = some v) (hq : Q (.done (.ret v)) ⟨h, g, d, t, os⟩) :
    wpAny (model P w) A (Builtin.«object.__getattribute__» ⟨[.ref x, .str name tk], []⟩) Q E ⟨h, g, d, t, os⟩ := by
  obtain ⟨⟨nm, q, N, bs, sn, sub, ab, col, dd, k0, k1, k2, k3, k5, cC⟩, _⟩ := xc
  obtain ⟨oc, od, odt, osl⟩ := o
  dsimp only at hc hd hdx
  subst hc hd hdx
  repeat (any_goals (first
    | assumption
    | with_reducible refine wpAny_loadPart_at hx ?_
    | with_reducible refine wpAny_loadPart_at cC ?_
    | with_reducible refine Rds.go la (fun _ _ z => z) ?_
    | with_reducible refine wpAny_nsGet hn.ns ?_
    | wp_step))
  rw [hv]
  repeat (any_goals (first | assumption | wp_step))

/-- x.name, an attribute of the exception's own -/
theorem get_attr {ex : Bool} {Q : Value → Shared → Prop} (FB : ExcAttrFacts "ValueError") (xc : XC h C bm) (lg : Rds (model P w) h (typeLookup (.ref C) "__getattribute__") (some (.builtin "BaseException.__getattribute__")))
    (lh : Rds (model P w) h (typeLookup (.ref C) "__getattr__") none) (la : Rds (model P w) h (typeLookup (.ref C) name) none) (hx : h.get? x = some o) (hc : o.cls = .ref C) (hd : o.data = .fields vs) (hdx : o.dict = some dx)
    (hn : h.Ns1 dx mA) (hv : mA name = some v) (hh : handedOut v = pure v) (hq : Q v ⟨h, g, d, t + 1, os⟩) : wpAny (model P w) A (getAttr (.ref x) name ex) Q E ⟨h, g, d, t, os⟩ := by
  have f3 := FB.ga.bind (.ref x)
  have e0 : (ex && onTheHeap (Value.builtin "BaseException.__getattribute__")) = false := by cases ex <;> rfl
  have e2 : (Value.builtin "BaseException.__getattribute__" == Value.builtin "object.__getattribute__") = false := by decide +kernel
  have e1 : (onTheHeap (Value.ref C) && Value.builtin "BaseException.__getattribute__" == Value.builtin "object.__getattribute__") = false := by rw [e2]; rfl
  unfold getAttr
  repeat (any_goals (first
    | assumption
    | (with_reducible refine wpAny_loadPart_at hx ?_; rw [hc])
    | with_reducible refine Rds.go lg (fun _ _ z => z) ?_
    | with_reducible refine Rds.go lh (fun _ _ z => z) ?_
    | wp_step))
  refine codeAny_call_builtin FB.ga.plain PySem.F.entry_bexc_ga (get_check xc hx hc (get_entry xc la hx hc hd hdx hn hv ?_))
  repeat (any_goals (first | assumption | wp_step))
end
end L3

set_option Elab.async false
set_option maxRecDepth 100000
namespace L3
open PySem Builtin Builtin.ObjectAttr
section
variable {P : Program} {w : World} {A : Around} {E : Value → Shared → Prop} {h : Heap} {g : Array GenState} {d : Drawn} {t : Nat} {os : OsState} {C x : Addr} {bm : List Value} {o : Obj}

theorem cls_get {R : Result → Shared → Prop} (xc : XC h C bm) (hx : h.get? x = some o) (hc : o.cls = .ref C) (hq : R (.ok (.ret (.ref C))) ⟨h, g, d, t, os⟩) :
    codeAny (model P w) A (.call (.builtin "getset_descriptor.__get__") ⟨[.builtin "object.__class__", .ref x, .ref C], []⟩) R ⟨h, g, d, t, os⟩ := by
  obtain ⟨⟨nm, q, N, bs, sn, sub, ab, col, dd, k0, k1, k2, k3, k5, cC⟩, _, _, ob, _, _⟩ := xc
  have ty : (⟨h, g, d, t, os⟩ : Shared).TypeIs (.builtin "object.__class__") "getset_descriptor" := PySem.F.typeOf_object_class
  have c1 : (Value.ref C :: bm).contains (.type (".".intercalate ("object.__class__".cutAt '.').dropLast)) = true := by
    rw [PySem.F.owner_object_class]
    exact has_more ob
  refine codeAny_call_builtin PySem.F.slot_gs_get.plain PySem.F.entry_gs_get (PySem.F.slot_gs_get.check _ _ _ _ _ _ _ _ ty (PySem.F.args_gs_get _ _ _) ?_)
  repeat (any_goals (first
    | assumption
    | (with_reducible refine wpAny_loadPart_at hx ?_; rw [hc])
    | (with_reducible refine wpAny_isSubtype_exc cC ?_; rw [c1])
    | wp_step))
  refine ⟨Code.quiet_builtin _ (by decide +kernel), codeAny_builtin PySem.F.entry_object_class ?_⟩
  repeat (any_goals (first
    | assumption
    | (with_reducible refine wpAny_loadPart_at hx ?_; rw [hc])
    | wp_step))

theorem cls_entry {tk : Tok} {Q : PySem.Fin → Shared → Prop} (xc : XC h C bm) (lc : Rds (model P w) h (typeLookup (.ref C) "__class__") (some (.builtin "object.__class__"))) (hx : h.get? x = some o) (hc : o.cls = .ref C)
    (hq : Q (.done (.ret (.ref C))) ⟨h, g, d, t, os⟩) : wpAny (model P w) A (Builtin.«object.__getattribute__» ⟨[.ref x, .str "__class__" tk], []⟩) Q E ⟨h, g, d, t, os⟩ := by
  have ty : (⟨h, g, d, t, os⟩ : Shared).TypeIs (.builtin "object.__class__") "getset_descriptor" := PySem.F.typeOf_object_class
  have f5 := PySem.F.typeOf_object_class
  have f6 := PySem.F.slot_gs_get.lookup
  have f7 := PySem.F.slot_gs_set.lookup
  repeat (any_goals (first
    | assumption
    | (with_reducible refine wpAny_loadPart_at hx ?_; rw [hc])
    | with_reducible refine Rds.go lc (fun _ _ z => z) ?_
    | wp_step))
  refine cls_get xc hx hc ?_
  repeat (any_goals (first | assumption | wp_step))

theorem cls_attr {Q : Option Value → Shared → Prop} (FB : ExcAttrFacts "ValueError") (xc : XC h C bm) (lg : Rds (model P w) h (typeLookup (.ref C) "__getattribute__") (some (.builtin "BaseException.__getattribute__")))
    (lh : Rds (model P w) h (typeLookup (.ref C) "__getattr__") none) (lc : Rds (model P w) h (typeLookup (.ref C) "__class__") (some (.builtin "object.__class__"))) (hx : h.get? x = some o) (hc : o.cls = .ref C)
    (hq : Q (some (.ref C)) ⟨h, g, d, t + 1, os⟩) : wpAny (model P w) A (getAttr? (.ref x) "__class__") Q E ⟨h, g, d, t, os⟩ := by
  have f3 := FB.ga.bind (.ref x)
  have e0 : (false && onTheHeap (Value.builtin "BaseException.__getattribute__")) = false := rfl
  have e2 : (Value.builtin "BaseException.__getattribute__" == Value.builtin "object.__getattribute__") = false := by decide +kernel
  have e1 : (onTheHeap (Value.ref C) && Value.builtin "BaseException.__getattribute__" == Value.builtin "object.__getattribute__") = false := by rw [e2]; rfl
  unfold getAttr? getAttrBy?
  repeat (any_goals (first
    | assumption
    | (with_reducible refine wpAny_loadPart_at hx ?_; rw [hc])
    | with_reducible refine Rds.go lg (fun _ _ z => z) ?_
    | with_reducible refine Rds.go lh (fun _ _ z => z) ?_
    | wp_step))
  refine codeAny_call_builtin FB.ga.plain PySem.F.entry_bexc_ga (get_check xc hx hc (cls_entry xc lc hx hc ?_))
  repeat (any_goals (first | assumption | wp_step))
end
end L3

set_option Elab.async false
set_option linter.all false
set_option maxRecDepth 100000
namespace L2
open PySem PySem.Spec PyProof.Rows L3

def onlyVal : List Value → Bool
  | .ref _ :: r => onlyVal r
  | l => l == [.type "ValueError", .type "Exception", .type "BaseException", .type "object"]
theorem refuse_val (self : Value) {l : List Value} (e : onlyVal l = true) : refuseLoop self "__setattr__" l = pure () := by
  induction l with
  | nil => cases e
  | cons c r ih =>
    cases c with
    | ref a =>
      rw [refuseLoop_ref]
      exact ih e
    | type n =>
      rw [show Value.type n :: r = [.type "ValueError", .type "Exception", .type "BaseException", .type "object"] from beq_iff_eq.mp e]
      exact PySem.F.store_ValueError.passes self
    | _ => exact absurd (beq_iff_eq.mp e) (by simp)
def bmOf (K : PySem.W.Frag) (C : Addr) : List Value := match K.lookup C with
  | some ⟨_, _, .cls cd, _⟩ => cd.mro.tail
  | _ => []
def xclsIn (K : PySem.W.Frag) (C : Addr) : Bool := match K.lookup C with
  | some ⟨.type "type", _, .cls cd, sl⟩ => (match cd.mro, sl.toList with
    | .ref C' :: bm, [_, _, _, _, some (.builtin n), _] => C' == C && !cd.hasDel && cd.hasDict && n == "ValueError.__new__" && bm.contains (.type "ValueError") && bm.contains (.type "BaseException") && bm.contains (.type "object") && !bm.contains (.type "AttributeError") && !bm.contains (.type "NameError") && onlyVal bm
    | _, _ => false)
  | _ => false
theorem xc_of {K : PySem.W.Frag} {h : Heap} {C : Addr} (X : K.In h) (q : xclsIn K C = true) : XC h C (bmOf K C) ∧ onlyVal (bmOf K C) = true := by
  unfold xclsIn at q
  split at q
  · rename_i dd cd sl ho
    split at q
    · rename_i C' bm k0 k1 k2 k3 n k5 hm hs
      simp only [Bool.and_eq_true, beq_iff_eq, Bool.not_eq_true'] at q
      obtain ⟨⟨⟨⟨⟨⟨⟨⟨⟨rfl, hdel⟩, hhd⟩, rfl⟩, hv⟩, hb⟩, hob⟩, hA⟩, hN⟩, ho'⟩ := q
      have eb : bmOf K C' = bm := by
        unfold bmOf
        rw [ho]
        show cd.mro.tail = bm
        rw [hm]
        rfl
      obtain ⟨nm, bs, mro, ns, qn, hd, sn, sub, ab, col, del⟩ := cd
      dsimp only at hm hdel hhd
      subst hm hdel hhd
      have hsl : sl = #[k0, k1, k2, k3, some (.builtin "ValueError.__new__"), k5] := by
        obtain ⟨l⟩ := sl
        simp only at hs
        rw [hs]
      subst hsl
      rw [eb]
      exact ⟨⟨⟨nm, qn, ns, bs, sn, sub, ab, col, dd, k0, k1, k2, k3, k5, X _ _ ho⟩, hv, hb, hob, hA, hN⟩, ho'⟩
    · cases q
  · cases q
/-- the facts of the class that k_is finds -/
structure XCls (K : PySem.W.Frag) (C : Addr) : Prop where
  sh : xclsIn K C = true
  ga : PySem.W.findIn K (.ref C) "__getattribute__" = some (some (.builtin "BaseException.__getattribute__"))
  gh : PySem.W.findIn K (.ref C) "__getattr__" = some none
  sa : PySem.W.findIn K (.ref C) "__setattr__" = some (some (.builtin "object.__setattr__"))
  cl : PySem.W.findIn K (.ref C) "__class__" = some (some (.builtin "object.__class__"))
theorem rds_of {K : PySem.W.Frag} {M : Model} {h : Heap} {C : Addr} {name : Str} {r : Option Value} (X : K.In h) (e : PySem.W.findIn K (.ref C) name = some r) : Rds M h (typeLookup (.ref C) name) r := PySem.W.looks_findIn X e
theorem XCls.xc {K : PySem.W.Frag} {h : Heap} {C : Addr} (c : XCls K C) (X : K.In h) : XC h C (bmOf K C) := (xc_of X c.sh).1
theorem XCls.pass {K : PySem.W.Frag} {h : Heap} {C : Addr} (c : XCls K C) (X : K.In h) (self : Value) : refuseLoop self "__setattr__" (bmOf K C) = pure () := refuse_val self (xc_of X c.sh).2

section
variable {X : Cx} {pins : List (Addr × Obj)} {σ : St} {H : Hp} {s : Shared} {h' : Heap}
theorem aft {ch : List Addr} (I : Inv X pins σ H s) (a : Aft (frs X.stack) ch s.heap h') (hc : ∀ b ∈ ch, FpOk X pins H b) : Inv X pins σ H { s with heap := h' } := by
  have nS : ∀ b, b ≠ X.env.locals → b ∉ X.fs → b ∉ frs X.stack := fun b h1 h2 z => (List.mem_cons.mp (I.stkSub b z)).elim h1 h2
  refine I.step (g' := s.gens) (d' := s.drawn) (t' := s.toks) (ch := ch) (fun b hb => ?_) (fun b o h1 h2 h3 e _ => a.keep b o (nS b h1 h2) h3 e) (fun b o _ _ h3 e _ => a.slot b o h3 e) (fun _ _ _ _ n => n)
    (fun b o h3 e => ?_) (fun _ _ e => e) (fun _ _ _ e => e) (fun b ps e => ⟨#[], by rw [e]; simp⟩) (fun m hm => ?_) (fun b u e => ?_) I.bare
  · obtain ⟨_, f1, _, f3, f4, f5⟩ := hc b hb
    exact ⟨f3, f1, f4, f5⟩
  · obtain ⟨sl, q⟩ := a.slot b o h3 e
    exact ⟨_, q⟩
  · obtain ⟨o, es, ep, ho, r⟩ := hm
    obtain ⟨sl, q⟩ := a.slot _ o (fun z => (hc _ z).2.1 rfl) ho
    exact ⟨_, es, ep, q, r⟩
  · refine (I.hok b u e).stay (fun c v hb q => a.keep c v (fun z => ?_) (fun z => ?_) q) (fun _ q => q) fun _ _ q => q
    · rcases hb with rfl | hb
      · rw [I.stkFree c z] at e; cases e
      · rw [I.stkFree c z] at hb; cases hb
    · rcases hb with rfl | hb
      · rw [(hc c z).1] at e; cases e
      · rw [(hc c z).1] at hb; cases hb
/-- an untracked object of ours is tracked from now on -/
theorem track {x : Addr} {o : HO} (I : Inv X pins σ H s) (f : FpOk X pins H x) (new : ObjOk X.prog X.w (upd H x o) s.heap x o) : Inv X pins σ (upd H x o) s := by
  obtain ⟨f0, f1, f2, f3, f4, f5⟩ := f
  have nx : ∀ b u, H b = some u → b ≠ x := fun b u e z => by rw [z, f0] at e; cases e
  refine ⟨I.ok, I.os, I.bare, ⟨I.base.keep, I.base.slot, fun b ob e n hx => ?_, I.base.there, fun b xs e => ?_, fun b ob u e => ?_, fun b ps e => ?_⟩, I.loc, I.cell, ?_, fun y c e => ?_, fun p hp => ?_, fun b u e => ?_, I.len⟩
  · have hb : b ≠ x := fun z => by
      rcases f3 with q | q
      · exact hx (z ▸ q)
      · exact absurd (Nat.lt_of_lt_of_le (Heap.lt_size e) (z ▸ q)) (Nat.lt_irrefl _)
    rw [upd_ne hb]
    exact I.base.free b ob e n hx
  · have q := I.base.tups b xs e
    rw [upd_ne (nx _ _ q)]
    exact q
  · have q := I.base.frzs b ob u e
    rw [upd_ne (nx _ _ q)]
    exact q
  · obtain ⟨more, q⟩ := I.base.tbls b ps e
    exact ⟨more, by rw [upd_ne (nx _ _ q)]; exact q⟩
  · rw [upd_ne (Ne.symm f1)]
    exact I.free
  · rw [upd_ne (f4 y c e)]
    exact I.freeC y c e
  · obtain ⟨e, n, ne, nf, d⟩ := I.pin p hp
    exact ⟨e, by rw [upd_ne (f5 p hp)]; exact n, ne, nf, d⟩
  · by_cases hb : b = x
    · subst hb
      rw [upd_same] at e
      cases e
      exact new
    · rw [upd_ne hb] at e
      exact (I.hok b u e).stay (fun _ _ _ q => q) (fun c q => by rw [upd_ne (nx _ _ q)]; exact q) fun c xs q => by rw [upd_ne (nx _ _ q)]; exact q
end

/-- the exception x of the class C, its own dict at dx, known in the body of X -/
structure ExIn (X : Cx) (pins : List (Addr × Obj)) (H : Hp) (s : Shared) (x : Addr) (C : Value) (dx : Option Addr) : Prop where
  own : FpOk X pins H x
  tr : Rec s.heap x C dx .none ∨ ∃ T fl, Rec s.heap x C dx (.ref T) ∧ T ≠ x ∧ Tra s.heap T fl ∧ FpOk X pins H T
/-- what is wanted of an exception is Ek, where the names are as R says -/
def XeIs (X : Cx) (R : St → Prop) (Ek : XK) : Prop :=
  ∀ (pins : List (Addr × Obj)) (σ : St) (H : Hp) (s : Shared) (x : Addr) (C : Value) (dx : Option Addr), Inv X pins σ H s → R σ → ExIn X pins H s x C dx → Ek C dx H → X.xe (.ref x) s
/-- how an exception lies behind a call -/
def CX1 (P : Program) (w : World) : CXT := fun outer H s E e s' =>
  ∃ (x : Addr) (C : Value) (dx : Option Addr) (T : Addr) (H' : Hp), e = .ref x ∧ s'.os = s.os ∧ AllBare s'.gens ∧ Un (frs outer) [] H H' s.heap s'.heap ∧ HOk P w H' s'.heap ∧ (s.heap.objs.size ≤ x ∧ H' x = none) ∧ (s.heap.objs.size ≤ T ∧ H' T = none) ∧ T ≠ x ∧
    Rec s'.heap x C dx (.ref T) ∧ Tra s'.heap T .none ∧ E C dx H'

section
variable {X : Cx}
theorem pass1 {R : St → Prop} {E : XK} (hx : XeIs X R E) {pins : List (Addr × Obj)} {σ : St} {H : Hp} {s : Shared} {e : Value} {s' : Shared} (I : Inv X pins σ H s) (r : R σ) (h : CX1 X.prog X.w X.stack H s E e s') : X.xe e s' := by
  obtain ⟨x, C, dx, T, H', rfl, os, bare, un, hok, ⟨x1, x2⟩, ⟨t1, t2⟩, ne, rc, tr, q⟩ := h
  have I' : Inv X pins σ H' s' := I.call' os un hok bare (ch := []) (fun _ z => nomatch z)
  exact hx pins σ H' s' x C dx I' r ⟨I.fpOk x1 x2, .inr ⟨T, _, rc, ne, tr, I.fpOk t1 t2⟩⟩ q
end

/-- it leaves the frame of a def -/
theorem xe_def {P : Program} {w : World} {K : PySem.W.Frag} {mg : Str → Option Value} {base : Heap} {cm : Bool} {N : List Str} {qual : Str} {scope : Scope} {f : Addr} {cd : Value} {A : Around} {outer : List Env} {s : Shared} {H : Hp} {E : XK} :
    XeIs (cxOf (CX1 P w) cm P w K mg base N qual scope f cd A outer s H E) (fun _ => True) E := by
  intro pins σ H1 s1 x C dx I _ ex e
  show wpAny (model P w) (A.deeper (envOfC qual scope s.heap.objs.size f cd)) (leaving (envOfC qual scope s.heap.objs.size f cd) (.ref x)) (fun _ s2 => CX1 P w outer H s E (.ref x) s2) (fun e' s2 => CX1 P w outer H s E e' s2) s1
  have fin : ∀ (T : Addr) (h2 : Heap), Inv (cxOf (CX1 P w) cm P w K mg base N qual scope f cd A outer s H E) pins σ H1 { s1 with heap := h2 } → s.heap.objs.size ≤ T → H1 T = none → T ≠ x → Rec h2 x C dx (.ref T) → Tra h2 T .none → CX1 P w outer H s E (.ref x) { s1 with heap := h2 } := by
    intro T h2 J t1 t2 ne r t
    obtain ⟨f0, _, _, f3, _⟩ := ex.own
    have x1 : s.heap.objs.size ≤ x := f3.elim (fun z => absurd (show x ∈ ([] : List Addr) from z) (by simp)) id
    exact ⟨x, C, dx, T, H1, rfl, J.os, J.bare, J.base, J.hok, ⟨x1, f0⟩, ⟨t1, t2⟩, ne, r, t, e⟩
  unfold leaving
  rcases ex.tr with r | ⟨T0, fl0, r, ne0, t0, f0⟩
  · refine wpAny_bind (note_new I.ok.frames I.stack rfl r fun h' T a sz r' t' => ?_)
    have xT : T ≠ x := by
      obtain ⟨oe, _, he, _⟩ := r
      exact fun z => absurd (Nat.lt_of_lt_of_le (Heap.lt_size he) (z ▸ sz)) (Nat.lt_irrefl _)
    have hT := I.hok.fresh sz
    have I1 := aft I a (by intro b hb; have : b = x := by simpa using hb
                           subst this; exact ex.own)
    refine flight_none r' xT t' fun h2 a2 r2 t2 => ?_
    have I2 := aft (h' := h2) I1 (a2.mono (by simp) fun _ z => z) (by intro b hb; have : b = T := by simpa using hb
                                                                      subst this; exact I.fpOk sz hT)
    exact fin T h2 I2 (Nat.le_trans I.sz sz) hT xT r2 t2
  · refine wpAny_bind (note_any I.ok.frames I.stack rfl r ne0 t0 fun h' T fl' a sz r' t' => ?_)
    have xT : T ≠ x := by
      obtain ⟨oe, _, he, _⟩ := r
      rcases sz with z0 | z0
      · rw [z0]; exact ne0
      · exact fun z => absurd (Nat.lt_of_lt_of_le (Heap.lt_size he) (z ▸ z0)) (Nat.lt_irrefl _)
    have fT : FpOk (cxOf (CX1 P w) cm P w K mg base N qual scope f cd A outer s H E) pins H1 T := by
      rcases sz with z0 | z0
      · rw [z0]; exact f0
      · exact I.fpOk z0 (I.hok.fresh z0)
    have I1 := aft I a (by intro b hb
                           rcases (show b = x ∨ b = T0 by simpa using hb) with z | z
                           · subst z; exact ex.own
                           · subst z; exact f0)
    refine flight_none r' xT t' fun h2 a2 r2 t2 => ?_
    have I2 := aft (h' := h2) I1 (a2.mono (by simp) fun _ z => z) (by intro b hb; have : b = T := by simpa using hb
                                                                      subst this; exact fT)
    obtain ⟨g0, _, _, g3, _⟩ := fT
    exact fin T h2 I2 (g3.elim (fun z => absurd (show T ∈ ([] : List Addr) from z) (by simp)) id) g0 xT r2 t2
end L2

set_option Elab.async false
set_option linter.all false
set_option maxRecDepth 100000
namespace L2
open PySem PySem.Spec PyProof.Rows L3

def tRaise (R : St → Prop) (C : Value) (ta : TA) (Ek : XK) : TS := fun _ σ H => ta σ H fun vs H1 => vs.length ≤ sizeLine ∧ R σ ∧ Ek C none H1
section
variable {X : Cx} {x : Str} {C : Addr} {np cpos pos : Pos} {e : Expr} {es : List Expr} {ta : TA} {R : St → Prop} {Ek : XK}
/-- of a class without an __init__ of its own -/
theorem ps_raise0 (hc : X.calm = true) (hxe : XeIs X R Ek) (hg : Gl X x) (hm : X.mg x = some (.ref C)) (T : XCls X.K C) (hi : PySem.W.findIn X.K (.ref C) "__init__" = some (some (.builtin "ValueError.__init__"))) (ha : PA X (e :: es) ta)
    (hdb : (x == ("__debug__" : Str)) = false := by decide) (he : starEach (e :: es) X.env = (false, eval e X.env) :: starEach es X.env := by rfl) (hpl : (backTo cpos (starEach (e :: es) X.env)).any (·.1) = false := by rfl) :
    PS X (.Raise (some (.Call (.Name x np) (e :: es) [] cpos)) none pos) (tRaise R (.ref C) ta Ek) := by
  intro pins s σ H D I h
  refine raise_call (C := C) (bm := bmOf X.K C) (iv := .builtin "ValueError.__init__") (I.ok.hd hc) hpl (ld_glob I hg hm ⟨rfl, ?_⟩ hdb)
  have hb : backTo cpos (starEach (e :: es) X.env) = (false, eval e X.env) :: backTo cpos (starEach es X.env) := by rw [he]; rfl
  rw [hb]
  refine Calls.evalArgs_plain ?_
  rw [← hb]
  refine thn (ha cpos pins s σ H _ I h) fun us s1 ⟨vs, H1, I1, r, hl, hR, hE⟩ => ?_
  have hlen : us.length ≤ sizeLine := by rw [← r.length]; exact hl
  refine ⟨rfl, hlen, T.xc I1.kIn, rds_of I1.kIn hi, fun h' x' hm' hs' => ?_⟩
  obtain ⟨hp, g, d, t, os⟩ := s1
  have KX : X.K.In h' := I1.kIn.keeps hm'.keeps
  refine plain_init (bm := bmOf X.K C) hm' (T.xc KX) hlen fun h2 hm2 k2 => ?_
  have KX2 : X.K.In h2 := I1.kIn.keeps k2
  obtain ⟨tt, hx2, htn, ht⟩ := hm2.there
  have I2 : Inv X pins σ H1 ⟨h2, g, d, t, os⟩ := I1.kept (t' := t) k2
  exact ⟨T.xc KX2, ⟨none, tt, hx2⟩, hxe pins σ H1 _ x' (.ref C) none I2 hR ⟨I1.fpOk hs' (I1.hok.fresh hs'), .inl ⟨_, _, hx2, rfl, rfl, rfl, rfl⟩⟩ hE⟩
end

def tCallR (R : St → Prop) (sp : Sp) (dvs : List V) (E : XK) (t : TA) : TE := fun σ H Q => t σ H fun vs H1 => R σ ∧ sp (vs ++ dvs) H1 Q E
def tMethR (R : St → Prop) (C : Addr) (m : Str) (sp : Sp) (dvs : List V) (E : XK) (ta : TE) (t : TA) : TE := fun σ H Q => ta σ H fun x H1 => ∃ a dx fs, x = .ref a ∧ H1 a = some (.ins C dx fs) ∧ fs.lookup m = none ∧
  t σ H1 fun vs H2 => R σ ∧ sp (x :: (vs ++ dvs)) H2 Q E
section
variable {X : Cx} {cm : Bool} {k : Nat} {f C : Addr} {fd : FuncData} {ps : List Str} {sp : Sp} {dvs : List V} {ds : List Value} {E : XK} {R : St → Prop} {x m : Str} {p pos apos : Pos} {e o : Expr} {es : List Expr} {ta : TE} {t : TA}
theorem run_fnR {pins : List (Addr × Obj)} {σ : St} {H : Hp} {s : Shared} {Q : VK} {us : List Value} {vs : List V} (F : FnOk X.prog X.w X.K X.mg X.base (CX1 X.prog X.w) cm k f fd ps sp) (hr : Room cm k X.A) (hb : Binds X.K fd ps ds) (hd : Vals dvs ds) (hx : XeIs X R E)
    (I : Inv X pins σ H s) (r : Vals vs us) (hR : R σ) (h : sp (vs ++ dvs) H Q E) : wpAny (model X.prog X.w) X.A (call (.ref f) us) (EP X pins σ Q) X.xe s := by
  have r2 : Vals (vs ++ dvs) (us ++ ds) := r.append hd
  have hl : (us ++ ds).length = ps.length := by rw [← r2.length]; exact F.len _ _ _ _ h
  refine wpAny_call (codeAny_mono (F.run X.A X.stack s H ⟨us, []⟩ (us ++ ds) (vs ++ dvs) Q E hr I.env0 (hb s us I.kIn hl) r2 h) fun r s' hq => ?_)
  cases r with
  | error e => exact pass1 hx I hR hq
  | ok fl =>
    cases fl with
    | ret u => exact I.after hq
    | next => exact False.elim hq
    | brk => exact False.elim hq
    | cont => exact False.elim hq
theorem pe_callR (F : FnOk X.prog X.w X.K X.mg X.base (CX1 X.prog X.w) cm k f fd ps sp) (hr : Room cm k X.A) (hg : Gl X x) (hm : X.mg x = some (.ref f)) (hk : PySem.W.keepIn X.K (.ref f) = true) (hb : Binds X.K fd ps ds) (hd : Vals dvs ds) (hx : XeIs X R E)
    (ha : PA X (e :: es) t) (hdb : (x == ("__debug__" : Str)) = false := by decide) (he : starEach (e :: es) X.env = (false, eval e X.env) :: starEach es X.env := by rfl) (hpl : (backTo pos (starEach es X.env)).any (·.1) = false := by rfl) :
    PE X (.Call (.Name x p) (e :: es) [] pos) (tCallR R sp dvs E t) := by
  intro pins s σ H Q I h
  refine wpAny_Call_Name_kw (ld_glob I hg hm ?_ hdb)
  refine PySem.W.callWith_K (h₀ := X.base) I.ok.mod.kin hk (thn (ha pos pins s σ H _ I h) fun us s1 ⟨vs, H1, I1, r, hR, q⟩ => ⟨I1.kIn, ?_⟩) he hpl
  exact run_fnR F hr hb hd hx I1 r hR q
theorem pe_methR {pl : Sem Bool} (he : PE X o ta) (c : Cls X.K C) (hm : Meth X.K C m f) (F : FnOk X.prog X.w X.K X.mg X.base (CX1 X.prog X.w) cm k f fd ps sp) (hr : Room cm k X.A) (hb : Binds X.K fd ps ds) (hd : Vals dvs ds) (hx : XeIs X R E) (ha : PA X (e :: es) t)
    (hst : starEach (e :: es) X.env = (false, eval e X.env) :: starEach es X.env := by rfl) (hpl : (backTo pos (starEach es X.env)).any (·.1) = false := by rfl)
    (ht : eval (.Call (.Attribute o m apos) (e :: es) [] pos) X.env = (do
      let ov ← eval o X.env
      standAt apos.atName
      let (f, first) ← holding [ov] (getMethod ov m pl)
      callWith pos f first (backTo pos (starEach (e :: es) X.env)) (backToKw pos (keywordEach [] X.env))) := by rfl) :
    PE X (.Call (.Attribute o m apos) (e :: es) [] pos) (tMethR R C m sp dvs E ta t) := by
  intro pins s σ H Q I h
  refine PySem.W.methodCall_KW (pl := pl) (thn (he pins s σ H _ I h) fun u s1 ⟨x, H1, I1, rx, a, dx, fs, ex, ea, l, q⟩ => ?_) ht
  subst ex
  obtain rfl : u = Value.ref a := rx
  refine getmeth_ok I1 ea c hm l ?_
  refine PySem.W.callWith_K (first := [.ref a]) (h₀ := X.base) I.ok.mod.kin hm.kp (thn (ha pos pins s1 σ H1 _ I1 q) fun us s2 ⟨vs, H2, I2, r, hR, q2⟩ => ⟨I2.kIn, ?_⟩) hst hpl
  exact run_fnR (us := .ref a :: us) (vs := .ref a :: vs) F hr hb hd hx I2 (.cons rfl r) hR q2
end

structure FunD (K : PySem.W.Frag) (x qual : Str) (st : Stmt) (f : Addr) (fd : FuncData) (dV : Value) : Prop where
  ex : ∃ (oc : Value) (od : Option Addr) (kV doc pm : Value) (an : Option Addr) (cdv ct : Value) (osl : Array (Option Value)),
    fd = PySem.W.fnOf x qual (defArgs st) (defBody st) (defScope st) dV kV doc pm an cdv ct ∧ K.lookup f = some ⟨oc, od, .func fd, osl⟩ ∧ PySem.W.codeIn K cdv qual = true
  kp : PySem.W.keepIn K (.ref f) = true
section
variable {P : Program} {w : World} {K : PySem.W.Frag} {mg : Str → Option Value} {base : Heap} {cm : Bool}
/-- THE RULE for a def that may raise -/
theorem FunD.okX {x qual : Str} {st : Stmt} {f : Addr} {fd : FuncData} {dV : Value} {N ps : List Str} {k : Nat} {sp : Sp} (F : FunD K x qual st f fd dV) (S : FnScope N ps (defScope st)) (len : ∀ vs H Q E, sp vs H Q E → vs.length = ps.length)
    (hbody : ∀ (cdv : Value) (A : Around) (outer : List Env) (s : Shared) (H : Hp) (vs : List V) (Q : VK) (E : XK), Room cm k (A.deeper (envOfC qual (defScope st) s.heap.objs.size f cdv)) → sp vs H Q E →
      ∃ t, PSs (cxOf (CX1 P w) cm P w K mg base N qual (defScope st) f cdv A outer s H E) (defBody st) t ∧ t { nx := fun _ H' => Q .non H', rt := Q } (start N vs) H) : FnOk P w K mg base (CX1 P w) cm (k + 1) f fd ps sp := by
  obtain ⟨oc, od, kV, doc, pm, an, cdv, ct, osl, rfl, lk, hcd⟩ := F.ex
  exact fn_of lk hcd S len fun A outer s H vs Q E hr hsp => hbody cdv A outer s H vs Q E hr hsp
/-- .. that never does -/
theorem FunD.ok {x qual : Str} {st : Stmt} {f : Addr} {fd : FuncData} {dV : Value} {N ps : List Str} {k : Nat} {sp : Sp} (F : FunD K x qual st f fd dV) (S : FnScope N ps (defScope st)) (len : ∀ vs H Q E, sp vs H Q E → vs.length = ps.length)
    (hbody : ∀ (cdv : Value) (A : Around) (outer : List Env) (s : Shared) (H : Hp) (vs : List V) (Q : VK) (E : XK), Room cm k (A.deeper (envOfC qual (defScope st) s.heap.objs.size f cdv)) → sp vs H Q E →
      ∃ t, PSs (cxOf CX0 cm P w K mg base N qual (defScope st) f cdv A outer s H E).nox (defBody st) t ∧ t { nx := fun _ H' => Q .non H', rt := Q } (start N vs) H) : FnOk P w K mg base CX0 cm (k + 1) f fd ps sp := by
  obtain ⟨oc, od, kV, doc, pm, an, cdv, ct, osl, rfl, lk, hcd⟩ := F.ex
  refine fn_of lk hcd S len fun A outer s H vs Q E hr hsp => ?_
  obtain ⟨t, h, q⟩ := hbody cdv A outer s H vs Q E hr hsp
  exact ⟨t, h.nox, q⟩
theorem FunD.binds {x qual : Str} {st : Stmt} {f : Addr} {fd : FuncData} {dV : Value} {ps : List Str} (F : FunD K x qual st f fd dV)
    (h : ∀ (kV doc pm : Value) (an : Option Addr) (cdv ct : Value) (us : List Value), us.length = ps.length → bindArgs (PySem.W.fnOf x qual (defArgs st) (defBody st) (defScope st) dV kV doc pm an cdv ct) ⟨us, []⟩ = pure (ps.zip us)) : Binds K fd ps [] := by
  obtain ⟨oc, od, kV, doc, pm, an, cdv, ct, osl, rfl, lk, hcd⟩ := F.ex
  exact .all (h kV doc pm an cdv ct)
theorem funD_mk {x qual : Str} {st : Stmt} {f : Addr} {oc dV : Value} {od an : Option Addr} {osl : Array (Option Value)} {kV doc pm cdv ct : Value} (l : K.lookup f = some ⟨oc, od, .func (PySem.W.fnOf x qual (defArgs st) (defBody st) (defScope st) dV kV doc pm an cdv ct), osl⟩)
    (c : PySem.W.codeIn K cdv qual = true) (k : PySem.W.keepIn K (.ref f) = true) : FunD K x qual st f (PySem.W.fnOf x qual (defArgs st) (defBody st) (defScope st) dV kV doc pm an cdv ct) dV := ⟨⟨oc, od, kV, doc, pm, an, cdv, ct, osl, rfl, l, c⟩, k⟩
end
end L2

set_option Elab.async false
set_option linter.all false
set_option maxRecDepth 100000
namespace L2
open PySem PySem.Spec PyProof.Rows L3

/-- the body of a try: another wish about exceptions; the pins of its start stand throughout -/
abbrev into (X : Cx) (pn : List (Addr × Obj)) (E : Value → Shared → Prop) : Cx := { X with pn := pn, xe := E }
/-- the suite behind except: no exception leaves it -/
abbrev sup (X : Cx) (x : Addr) : Cx := { X with A := X.A.mark (some (.ref x)), calm := false, xe := fun _ _ => False }
/-- the exception at x, of the class C, its own dict at dx -/
def excO (x : Addr) (C : Value) (dx : Option Addr) : HO := .ext fun h => ∃ o vs, h.get? x = some o ∧ o.cls = C ∧ o.dict = dx ∧ o.data = .fields vs
theorem excO_ok {P : Program} {w : World} {H : Hp} {h : Heap} {x : Addr} {C : Value} {dx : Option Addr} {tb : Value} (r : Rec h x C dx tb) : ObjOk P w H h x (excO x C dx) := by
  obtain ⟨oe, vs, he, hc, hd, hf, _⟩ := r
  refine ⟨⟨oe, vs, he, hc, hd, hf⟩, ⟨oe, he⟩, fun h1 h2 z k => ?_⟩
  obtain ⟨o, vs, e, q⟩ := z
  exact ⟨o, vs, k o e, q⟩
theorem excO_get {P : Program} {w : World} {H : Hp} {h : Heap} {x : Addr} {C : Value} {dx : Option Addr} (hok : HOk P w H h) (e : H x = some (excO x C dx)) : ∃ o vs, h.get? x = some o ∧ o.cls = C ∧ o.dict = dx ∧ o.data = .fields vs := by
  obtain ⟨q, _⟩ := (show ObjOk P w H h x (excO x C dx) from hok x _ e)
  exact q
section
variable {X : Cx} {pins pins' : List (Addr × Obj)} {σ : St} {H : Hp} {s : Shared} {E : Value → Shared → Prop} {D : Ends}
theorem ok_into (ok : X.Ok) (pn : List (Addr × Obj)) (E : Value → Shared → Prop) : (into X pn E).Ok :=
  ⟨ok.mod, ok.kind, ok.glob, ok.blt, ok.above, ok.inj, ok.has, ok.cab, ok.hd, ok.frames, ok.stk, ok.exf, ok.bs, ok.bsz, ok.noex, ok.exfs, ok.funs, ok.frf⟩
theorem ok_outof {pn : List (Addr × Obj)} (ok : (into X pn E).Ok) : X.Ok :=
  ⟨ok.mod, ok.kind, ok.glob, ok.blt, ok.above, ok.inj, ok.has, ok.cab, ok.hd, ok.frames, ok.stk, ok.exf, ok.bs, ok.bsz, ok.noex, ok.exfs, ok.funs, ok.frf⟩
theorem inv_into (I : Inv X pins σ H s) (E : Value → Shared → Prop) : Inv (into X (X.pn ++ pins) E) [] σ H s :=
  ⟨ok_into I.ok _ E, I.os, I.bare, I.base, I.loc, I.cell, I.free, I.freeC, fun p hp => I.pin p (by simpa using hp), I.hok, I.len⟩
theorem inv_outof (I : Inv (into X (X.pn ++ pins) E) pins' σ H s) : Inv X pins σ H s :=
  ⟨ok_outof I.ok, I.os, I.bare, I.base, I.loc, I.cell, I.free, I.freeC, fun p hp => I.pin p (List.mem_append_left _ hp), I.hok, I.len⟩
theorem ok_sup (ok : X.Ok) (x : Addr) : (sup X x).Ok :=
  ⟨ok.mod, ok.kind, ok.glob, ok.blt, ok.above, ok.inj, ok.has, ok.cab, fun z => (by cases z), ok.frames, ok.stk, ok.exf, ok.bs, ok.bsz, ok.noex, ok.exfs, ok.funs, ok.frf⟩
theorem inv_sup (I : Inv X pins σ H s) (x : Addr) : Inv (sup X x) pins σ H s := ⟨ok_sup I.ok x, I.os, I.bare, I.base, I.loc, I.cell, I.free, I.freeC, I.pin, I.hok, I.len⟩
theorem inv_unsup {x : Addr} (ok : X.Ok) (I : Inv (sup X x) pins σ H s) : Inv X pins σ H s := ⟨ok, I.os, I.bare, I.base, I.loc, I.cell, I.free, I.freeC, I.pin, I.hok, I.len⟩
theorem sp_outof {f : Flow} {s' : Shared} (h : SP (into X (X.pn ++ pins) E) [] D f s') : SP X pins D f s' := by
  cases f with
  | next => obtain ⟨σ', H', I, q⟩ := h; exact ⟨σ', H', inv_outof I, q⟩
  | brk => obtain ⟨σ', H', I, q⟩ := h; exact ⟨σ', H', inv_outof I, q⟩
  | cont => obtain ⟨σ', H', I, q⟩ := h; exact ⟨σ', H', inv_outof I, q⟩
  | ret u => obtain ⟨v, σ', H', I, r, q⟩ := h; exact ⟨v, σ', H', inv_outof I, r, q⟩
theorem fp_outof {b : Addr} (f : FpOk (into X (X.pn ++ pins) E) pins' H b) : FpOk X pins H b := by
  obtain ⟨f0, f1, f2, f3, f4, f5⟩ := f
  exact ⟨f0, f1, f2, f3, f4, fun p hp => f5 p (List.mem_append_left _ hp)⟩

/-- the name behind as goes again -/
theorem unbind_ok {M : Model} {A : Around} {i : Nat} {n : Str} {pos : Pos} {Q : Unit → Shared → Prop} (I : Inv X pins σ H s) (hN : X.N.Nodup) (hi : X.N[i]? = some n) (hl : X.env.scope.names.lookup n = some .local)
    (h : ∀ s', Inv X pins (σ.set i none) H s' → Q () s') : wpAny M A (do bindName X.env n .none; unbindBehindTheSuite X.env n pos) Q E s := by
  obtain ⟨m, hn, hlk⟩ := id I.loc
  have hcls : (X.env.scope.kind == .class || (X.env.scope.kind == .module && X.env.locals != X.env.globals)) = false := by rw [I.ok.kind]; rfl
  obtain ⟨oL, _, _, hoL, _⟩ := id hn
  have lt : ∀ b o, X.s₀.heap.get? b = some o → b ≠ X.env.locals := fun b o e => Nat.ne_of_lt (Nat.lt_of_lt_of_le (Heap.lt_size e) I.ok.above)
  refine wpAny_nameGoes_keeps hl hn hcls fun h' v hn' hs => h _ ⟨I.ok, I.os, I.bare, ⟨fun b o e n hb hx => ?_, fun b o e n hb hx => ?_, I.base.free, fun b o e hx => ?_, I.base.tups, I.base.frzs, I.base.tbls⟩, ⟨_, hn', fun j y v' e1 e2 e3 => ?_⟩, fun y c e => ?_, I.free, I.freeC, fun p hp => ?_, fun b u e => ?_, by simpa using I.len⟩
  · exact (hs.2 b (lt b o e)).trans (I.base.keep b o e n hb hx)
  · obtain ⟨sl, e1⟩ := I.base.slot b o e n hb hx
    exact ⟨sl, (hs.2 b (lt b o e)).trans e1⟩
  · obtain ⟨o', e1⟩ := I.base.there b o e hx
    exact ⟨o', (hs.2 b (lt b o e)).trans e1⟩
  · by_cases hj : j = i
    · subst hj
      have hiσ : j < σ.length := by rw [I.len]; exact (List.getElem?_eq_some_iff.mp hi).1
      rw [List.getElem?_set_self hiσ] at e2
      cases e2
    · rw [List.getElem?_set_ne (Ne.symm hj)] at e2
      obtain ⟨u', r', q⟩ := hlk j y v' e1 e2 e3
      refine ⟨u', r', ?_⟩
      rcases q with ⟨k, e⟩ | ⟨k, c, e, z⟩
      · refine .inl ⟨k, ?_⟩
        have : y ≠ n := fun e => hj (nodup_ix hN e1 (e ▸ hi))
        simp [this, e]
      · exact .inr ⟨k, c, e, z.sameBut hs (I.cne y c e)⟩
  · obtain ⟨w', z⟩ := I.cell y c e
    exact ⟨w', z.sameBut hs (I.cne y c e)⟩
  · obtain ⟨e, n, ne, nf, d⟩ := I.pin p hp
    exact ⟨(hs.2 p.1 ne).trans e, n, ne, nf, d⟩
  · refine (I.hok b u e).stay (fun c w' hc q => (hs.2 c ?_).trans q) (fun _ q => q) fun _ _ q => q
    rintro rfl
    rcases hc with rfl | hc
    · rw [I.free] at e; cases e
    · rw [I.free] at hc; cases hc
end

/-- try: body / except CB as name i: suite. tb speaks of the body by what is wanted of an exception -/
def tTry (K : PySem.W.Frag) (CB : Addr) (i : Nat) (tb : (St → Prop) → XK → TS) (ts : TS) : TS := fun D σ H =>
  tb (fun σ' => σ' = σ) (fun C dx H' => PySem.W.exmOne K C (.ref CB) = some true ∧ ∀ x, H' x = none →
    ts { nx := fun σ2 H2 => D.nx (σ2.set i none) H2, rt := D.rt, bk := fun σ2 H2 => D.bk (σ2.set i none) H2, ct := fun σ2 H2 => D.ct (σ2.set i none) H2 } (σ.set i (some (.ref x))) (upd H' x (excO x C dx))) D σ H
section
variable {X : Cx}
theorem ps_try {body suite : List Stmt} {b0 : Stmt} {y n : Str} {np hpos pos : Pos} {CB : Addr} {i : Nat} {tb : (St → Prop) → XK → TS} {ts : TS} (hN : X.N.Nodup) (hi : X.N[i]? = some n) (hl : X.env.scope.names.lookup n = some .local)
    (hst : X.stack = X.env :: X.outer) (hfr : X.env.frame = some X.env.locals) (hg : Gl X y) (hm : X.mg y = some (.ref CB))
    (hb : ∀ (pn : List (Addr × Obj)) (E : Value → Shared → Prop) (R : St → Prop) (Ek : XK), PassesOwn (model X.prog X.w) X.A X.env E → XeIs (into X pn E) R Ek → PSs (into X pn E) body (tb R Ek)) (hs : ∀ x, PSs (sup X x) (b0 :: suite) ts)
    (hdb : (y == ("__debug__" : Str)) = false := by decide) : PS X (.Try body [.ExceptHandler (some (.Name y np)) (some n) (b0 :: suite) hpos] [] [] pos) (tTry X.K CB i tb ts) := by
  intro pins s σ H D I h
  refine wpAny_Try_except ?_
  have hxe : XeIs (into X (X.pn ++ pins) (fun e s1 => wpAny (model X.prog X.w) X.A (noteFrame e X.env) (fun _ s2 => wpAny (model X.prog X.w) X.A (setFlight e none)
      (fun _ s3 => wpAny (model X.prog X.w) X.A (handleBy e X.env [.ExceptHandler (some (.Name y np)) (some n) (b0 :: suite) hpos]) (SP X pins D) X.xe s3) X.xe s2) X.xe s1)) (fun σ' => σ' = σ)
      (fun C dx H' => PySem.W.exmOne X.K C (.ref CB) = some true ∧ ∀ x, H' x = none →
        ts { nx := fun σ2 H2 => D.nx (σ2.set i none) H2, rt := D.rt, bk := fun σ2 H2 => D.bk (σ2.set i none) H2, ct := fun σ2 H2 => D.ct (σ2.set i none) H2 } (σ.set i (some (.ref x))) (upd H' x (excO x C dx))) := by
    rintro pins' σ' H' s' x C dx I' rfl ex ⟨hmt, hsu⟩
    have I1 : Inv X pins σ' H' s' := inv_outof I'
    have own : FpOk X pins H' x := fp_outof ex.own
    -- behind noteFrame and setFlight
    have fin : ∀ (T : Addr) (s3 : Shared), Inv X pins σ' H' s3 → FpOk X pins H' T → T ≠ x → Rec s3.heap x C dx (.ref T) → Tra s3.heap T .none →
        wpAny (model X.prog X.w) X.A (handleBy (.ref x) X.env [.ExceptHandler (some (.Name y np)) (some n) (b0 :: suite) hpos]) (SP X pins D) X.xe s3 := by
      intro T s3 I3 fT ne r3 t3
      have LT : PySem.W.Looks (model X.prog X.w) s3.heap (typeOf (.ref x)) C := by
        obtain ⟨oe, vs, he, hc, _⟩ := id r3
        exact hc ▸ (PySem.W.Looks.ld he).andThen .now
      refine wpAny_handleBy_cons (codeAny_handlers_test (ld_glob (X := sup X x) (inv_sup I3 x) hg hm ((PySem.W.exm_one I3.kIn LT hmt).here ?_) hdb)) (by intro z; cases z)
      show codeAny _ _ (.handlers (.ref x) [.ExceptHandler none (some n) (b0 :: suite) hpos] X.env) _ s3
      refine codeAny_handlers_suite_as (flight_none r3 ne t3 fun h4 a4 r4 t4 => ?_)
      have I4 : Inv X pins σ' H' { s3 with heap := h4 } := aft I3 (a4.mono (by simp) fun _ z => z) (by intro b hb; have : b = T := by simpa using hb
                                                                                                       subst this; exact fT)
      have I5 := track (o := excO x C dx) I4 own (excO_ok r4)
      refine store_ok (X := sup X x) (inv_sup I5 x) hN hi (.inl hl) (v := .ref x) rfl (fun s6 I6 => ?_) (.inr hl)
      refine wpAny_mono (hs x pins s6 _ _ _ I6 (hsu x own.1)) (fun f s7 q => ?_) fun _ _ z => z.elim
      cases f with
      | next => obtain ⟨σ7, H7, I7, q7⟩ := q; exact unbind_ok (inv_unsup I.ok I7) hN hi hl fun s8 I8 => ⟨_, _, I8, q7⟩
      | brk => obtain ⟨σ7, H7, I7, q7⟩ := q; exact unbind_ok (inv_unsup I.ok I7) hN hi hl fun s8 I8 => ⟨_, _, I8, q7⟩
      | cont => obtain ⟨σ7, H7, I7, q7⟩ := q; exact unbind_ok (inv_unsup I.ok I7) hN hi hl fun s8 I8 => ⟨_, _, I8, q7⟩
      | ret u => obtain ⟨v7, σ7, H7, I7, r7, q7⟩ := q; exact unbind_ok (inv_unsup I.ok I7) hN hi hl fun s8 I8 => ⟨v7, _, _, I8, r7, q7⟩
    have fr : X.A.frames = some (X.env :: X.outer) := by rw [I1.ok.frames, hst]
    have stk : s'.heap.FunFrames X.base (X.env :: X.outer) := by rw [← hst]; exact I1.stack
    have big : ∀ {T : Addr}, s'.heap.objs.size ≤ T → (∃ tb, Rec s'.heap x C dx tb) → T ≠ x := fun sz ⟨_, oe, _, he, _⟩ z => absurd (Nat.lt_of_lt_of_le (Heap.lt_size he) (z ▸ sz)) (Nat.lt_irrefl _)
    rcases ex.tr with r | ⟨T0, fl0, r, ne0, t0, f0⟩
    · refine note_new fr stk hfr r fun h' T a sz r' t' => ?_
      have J1 := aft I1 (by rw [hst]; exact a) (by intro b hb; have : b = x := by simpa using hb
                                                   subst this; exact own)
      have ne := big sz ⟨_, r⟩
      have fT := I1.fpOk (H' := H') sz (I1.hok.fresh sz)
      refine flight_none r' ne t' fun h2 a2 r2 t2 => ?_
      exact fin T _ (aft (h' := h2) J1 (a2.mono (by simp) fun _ z => z) (by intro b hb; have : b = T := by simpa using hb
                                                                            subst this; exact fT)) fT ne r2 t2
    · refine note_any fr stk hfr r ne0 t0 fun h' T fl' a sz r' t' => ?_
      have J1 := aft I1 (by rw [hst]; exact a) (by intro b hb
                                                   rcases (show b = x ∨ b = T0 by simpa using hb) with z | z
                                                   · subst z; exact own
                                                   · subst z; exact fp_outof f0)
      have ne : T ≠ x := by
        rcases sz with z0 | z0
        · rw [z0]; exact ne0
        · exact big z0 ⟨_, r⟩
      have fT : FpOk X pins H' T := by
        rcases sz with z0 | z0
        · rw [z0]; exact fp_outof f0
        · exact I1.fpOk (H' := H') z0 (I1.hok.fresh z0)
      refine flight_none r' ne t' fun h2 a2 r2 t2 => ?_
      exact fin T _ (aft (h' := h2) J1 (a2.mono (by simp) fun _ z => z) (by intro b hb; have : b = T := by simpa using hb
                                                                            subst this; exact fT)) fT ne r2 t2
  refine wpAny_mono (hb (X.pn ++ pins) _ _ _ PassesOwn.looking hxe [] s σ H D (inv_into I _) h) (fun f s1 q => ?_) fun _ _ z => z
  have q' := sp_outof q
  cases f with
  | next => exact wpAny_execs_nil q'
  | brk => exact q'
  | cont => exact q'
  | ret u => exact q'
end
end L2

set_option Elab.async false
set_option linter.all false
set_option maxRecDepth 100000
namespace L2
open PySem PySem.Spec PyProof.Rows L3

theorem kitx_exc {K : PySem.W.Frag} {x C : Addr} (T : XCls K C) : PySem.W.KitX K (.ref x) (.ref C) (fun h => ∃ o, h.get? x = some o ∧ o.cls = .ref C) where
  ty := fun M h _ p => by
    obtain ⟨o, e, c⟩ := p
    exact c ▸ (PySem.W.Looks.ld e).andThen .now
  it := fun M h X _ => by
    obtain ⟨⟨nm, q, N, bs, sn, sub, ab, col, dd, k0, k1, k2, k3, k5, cC⟩, _⟩ := T.xc X
    intro A Q E s k z
    unfold isType loadHead
    exact wpAny_bind (wpAny_loadPart (k _ _ cC) (wpAny_pure z))
  ne := fun h tp dd its n sl X htp => by
    obtain ⟨⟨nm, q, N, bs, sn, sub, ab, col, dd', k0, k1, k2, k3, k5, cC⟩, _⟩ := T.xc X
    refine Bool.eq_false_iff.mpr fun z => ?_
    have e : C = tp := Value.ref.inj (beq_iff_eq.mp z)
    subst e
    rw [cC] at htp
    have z2 := congrArg Obj.data (Option.some.inj htp)
    cases z2
  ca := fun {P w A E Q s} X p k => by
    obtain ⟨o, e, c⟩ := p
    obtain ⟨h, g, d, t, os⟩ := s
    exact cls_attr PySem.F.excAttr_ValueError (T.xc X) (rds_of X T.ga) (rds_of X T.gh) (rds_of X T.cl) e c k
/-- the type of a value -/
inductive TyX (K : PySem.W.Frag) (H : Hp) : V → Value → Prop where
  | of {x : V} {t : Value} (e : TyOf K H x t) : TyX K H x t
  | exc {a C : Addr} {dx : Option Addr} (e : H a = some (excO a (.ref C) dx)) (T : XCls K C) : TyX K H (.ref a) (.ref C)
def clsV : V → Option Value
  | .ty n => some (.type n)
  | .ref a => some (.ref a)
  | _ => none
theorem clsV_is {c : V} {u t : Value} (e : clsV c = some u) (r : RelV c t) : t = u := by
  cases c with
  | ty n => cases e; exact r
  | ref a => cases e; exact r
  | _ => cases e
def clsVs : List V → Option (List Value)
  | [] => some []
  | c :: r => (clsV c).bind fun u => (clsVs r).map fun us => u :: us
theorem clsVs_are : ∀ {cs : List V} {us ts : List Value}, clsVs cs = some us → Vals cs ts → ts = us
  | [], us, ts, e, r => by cases e; cases r; rfl
  | c :: cs, us, ts, e, r => by
    cases r with
    | cons r1 r2 =>
      obtain ⟨u, e1, e2⟩ := Option.bind_eq_some_iff.mp (show (clsV c).bind _ = some us from e)
      obtain ⟨us', e3, rfl⟩ := Option.map_eq_some_iff.mp e2
      rw [clsV_is e1 r1, clsVs_are e3 r2]
/-- isinstance(x, c) -/
def rIs (K : PySem.W.Frag) : List V → Hp → VK → Prop := fun xs H Q => ∃ x c t u b, xs = [x, c] ∧ TyX K H x t ∧ clsV c = some u ∧ PySem.W.kitOne K t u = some b ∧ Q (.bl b) H
/-- isinstance(x, (c, ..)) -/
def rIsT (K : PySem.W.Frag) : List V → Hp → VK → Prop := fun xs H Q => ∃ x tp cs t us b, xs = [x, .ref tp] ∧ TyX K H x t ∧ H tp = some (.tup cs) ∧ clsVs cs = some us ∧ PySem.W.kitAny K t us = some b ∧ Q (.bl b) H
section
variable {X : Cx}
theorem call_is : CallR X (.builtin "isinstance") (rIs X.K) := by
  intro pins s σ H xs us Q I r h
  obtain ⟨x, c, t, u, b, rfl, ty, hc, e, q⟩ := h
  cases r with
  | cons r1 r2 =>
    cases r2 with
    | cons r2 r3 =>
      cases r3
      rename_i v1 v2
      rw [clsV_is hc r2]
      cases ty with
      | of ty => exact isinst_ok I r1 ty e fun tk => ⟨.bl b, H, I.tok _, rfl, q⟩
      | @exc a C dx ea T =>
        cases (show v1 = Value.ref a from r1)
        obtain ⟨o, vs, e1, e2, _⟩ := excO_get I.hok ea
        exact PySem.W.kia_one (kitx_exc T) I.kIn ⟨o, e1, e2⟩ e (fun z => nomatch z) fun tk => ⟨.bl b, H, I.tok _, rfl, q⟩
theorem call_isT_exc : CallR X (.builtin "isinstance") (fun xs H Q => ∃ a C dx tp cs us b, xs = [.ref a, .ref tp] ∧ H a = some (excO a (.ref C) dx) ∧ XCls X.K C ∧ H tp = some (.tup cs) ∧ clsVs cs = some us ∧ PySem.W.kitAny X.K (.ref C) us = some b ∧ Q (.bl b) H) := by
  intro pins s σ H xs us Q I r h
  obtain ⟨a, C, dx, tp, cs, ts, b, rfl, ea, T, ht, hc, e, q⟩ := h
  cases r with
  | cons r1 r2 =>
    cases r2 with
    | cons r2 r3 =>
      cases r3
      rename_i v1 v2
      cases (show v1 = Value.ref a from r1)
      cases (show v2 = Value.ref tp from r2)
      obtain ⟨_, its, rv, p⟩ := (show ObjOk X.prog X.w H s.heap tp (.tup cs) from I.hok tp _ ht)
      obtain ⟨⟨oc, od, odt, osl⟩, h1, h2, n, h3⟩ := p
      dsimp only at h2 h3
      subst h2 h3
      have ei := clsVs_are hc rv
      subst ei
      obtain ⟨o, vs, e1, e2, _⟩ := excO_get I.hok ea
      exact PySem.W.kia_tup (kitx_exc T) I.kIn ⟨o, e1, e2⟩ h1 e (fun z => nomatch z) fun tk => ⟨.bl b, H, I.tok _, rfl, q⟩
end

/-- e.f of the exception -/
def tFldX (K : PySem.W.Frag) (ta : TE) (f : Str) : TE := fun σ H Q => ta σ H fun x H1 => ∃ a C dx fs v, x = .ref a ∧ H1 a = some (excO a (.ref C) (some dx)) ∧ H1 dx = some (.xd fs) ∧ XCls K C ∧ NoAttr K C f ∧ fs.lookup f = some v ∧ Q v H1
section
variable {X : Cx} {e : Expr} {f : Str} {pos : Pos} {ta : TE}
theorem pe_fldX (he : PE X e ta) (hb : attributeBase e f X.env (eval e X.env) = eval e X.env) : PE X (.Attribute e f pos) (tFldX X.K ta f) := by
  intro pins s σ H Q I h
  refine attr_of hb (thn (he pins s σ H _ I h) fun u s1 ⟨x, H1, I1, rx, a, C, dx, fs, v, ex, ea, ed, T, n, l, q⟩ => ?_)
  subst ex
  obtain rfl : u = Value.ref a := rx
  obtain ⟨o, vs, e1, e2, e3, e4⟩ := excO_get I1.hok ea
  obtain ⟨mA, hn, rel⟩ := (show ObjOk X.prog X.w H1 s1.heap dx (.xd fs) from I1.hok dx _ ed)
  obtain ⟨w', hw, rw'⟩ := RelO.some_of (v := v) (o := mA f) (by rw [← l]; exact rel f)
  obtain ⟨hp, g, d, t, os⟩ := s1
  exact get_attr PySem.F.excAttr_ValueError (T.xc I1.kIn) (rds_of I1.kIn T.ga) (rds_of I1.kIn T.gh) (rds_of I1.kIn n) e1 e2 e4 e3 hn hw (PySem.W.handedOut_of (handed_of rw')) ⟨v, H1, I1.tok _, rw', q⟩
end
end L2

set_option Elab.async false
set_option linter.all false
set_option maxRecDepth 100000
namespace L2
open PySem PySem.Spec PyProof.Rows L3

/-- bare of a trace -/
def bareO (x : Addr) (C : Value) (dx : Option Addr) : HO := .ext fun h => ∃ t, h.get? x = some { cls := C, dict := dx, data := .fields #[.ref t, .none, .none, .none, .bool false, .none] }
theorem bareO_ok {P : Program} {w : World} {H : Hp} {h : Heap} {x t : Addr} {C : Value} {dx : Option Addr} (e : h.get? x = some { cls := C, dict := dx, data := .fields #[.ref t, .none, .none, .none, .bool false, .none] }) : ObjOk P w H h x (bareO x C dx) :=
  ⟨⟨t, e⟩, ⟨_, e⟩, fun h1 h2 ⟨t', z⟩ k => ⟨t', k _ z⟩⟩
theorem bareO_get {P : Program} {w : World} {H : Hp} {h : Heap} {x : Addr} {C : Value} {dx : Option Addr} (hok : HOk P w H h) (e : H x = some (bareO x C dx)) : ∃ t, h.get? x = some { cls := C, dict := dx, data := .fields #[.ref t, .none, .none, .none, .bool false, .none] } :=
  (show ObjOk P w H h x (bareO x C dx) from hok x _ e).1
theorem within_xd {fs : List (Str × V)} {mA : Str → Option Value} (rel : ∀ f, RelO (fs.lookup f) (mA f)) : PySem.Within mA (fs.map (·.1)) := fun g hg => by
  cases q : fs.lookup g with
  | none => exact absurd (RelO.none_of (by rw [← q]; exact rel g)) hg
  | some v => exact List.mem_map.mpr ⟨(g, v), PySem.mem_of_lookup q, rfl⟩
theorem rel_put {fs : List (Str × V)} {mA : Str → Option Value} {f : Str} {y : V} {u : Value} (rel : ∀ g, RelO (fs.lookup g) (mA g)) (ry : RelV y u) (g : Str) : RelO ((putF f y fs).lookup g) (if g = f then some u else mA g) := by
  rw [lookup_putF]
  by_cases q : g = f
  · rw [if_pos q, if_pos q]; exact ry
  · rw [if_neg q, if_neg q]; exact rel g
section
variable {X : Cx} {pins : List (Addr × Obj)} {σ : St} {H : Hp} {s : Shared} {A : Around} {E : Value → Shared → Prop} {a C : Addr} {f : Str} {y : V} {u : Value} {Q : Unit → Shared → Prop}
/-- the first attribute: a dict is made -/
theorem setb_new (I : Inv X pins σ H s) (ea : H a = some (bareO a (.ref C) none)) (T : XCls X.K C) (n : NoAttr X.K C f) (ry : RelV y u)
    (h : ∀ d s', H d = none → d ≠ a → Inv X pins σ (upd (upd H d (.xd (putF f y []))) a (bareO a (.ref C) (some d))) s' → Q () s') : wpAny (model X.prog X.w) A (setAttr (.ref a) f u) Q E s := by
  obtain ⟨t, e0⟩ := bareO_get I.hok ea
  obtain ⟨hp, g, dr, tk, os⟩ := s
  have KX := I.kIn
  refine set_attr (mA := fun _ => none) (ns := []) PySem.F.store_ValueError (T.xc KX) (T.pass KX) (rds_of KX T.sa) (rds_of KX n) ⟨_, e0, rfl, (fun c z => nomatch z), .inl ⟨rfl, fun _ => rfl⟩⟩ (fun g hg => absurd rfl hg) (Nat.zero_le _) fun h' tk' st => ?_
  obtain ⟨⟨o', i1, i2, i3, i4⟩, keep, same, newd⟩ := st
  obtain ⟨o1, s1, s2, s3, s4, _⟩ := same _ e0
  obtain ⟨o2, n1, n2⟩ := newd _ e0 rfl
  have q1 : o2 = o1 := Option.some.inj (n1.symm.trans s1)
  have q2 : o' = o1 := Option.some.inj (i1.symm.trans s1)
  rw [q1] at n2
  rw [q2] at i4
  have hne : hp.objs.size ≠ a := Nat.ne_of_gt (Heap.lt_size e0)
  have hd : H hp.objs.size = none := I.hok.fresh (Nat.le_refl _)
  rcases i4 with ⟨z, _⟩ | ⟨d', z, z2, ns⟩
  · rw [n2] at z; cases z
  · rw [n2] at z
    cases z
    have e1 : h'.get? a = some { cls := .ref C, dict := some hp.objs.size, data := .fields #[.ref t, .none, .none, .none, .bool false, .none] } := by
      rw [s1]
      obtain ⟨oc, od, odt, osl⟩ := o1
      dsimp only at s2 s3 s4 n2
      subst s2 s3 s4 n2
      rfl
    have kp : ∀ b o, b ≠ a → hp.get? b = some o → h'.get? b = some o := fun b o hb e => keep b o hb (fun o0 dx q1 q2 => by rw [e0] at q1; cases q1; cases q2) e
    refine h hp.objs.size _ hd hne (I.step (g' := g) (d' := dr) (t' := tk') (ch := []) (fun _ z => nomatch z) (fun b o _ _ _ e nb => kp b o (fun z => by rw [z, ea] at nb; cases nb) e) (fun b o _ _ _ e nb => ⟨o.slots, kp b o (fun z => by rw [z, ea] at nb; cases nb) e⟩)
      (fun b o _ e nb => ?_) (fun b o _ e => ?_) (fun b xs e => ?_) (fun b o v e => ?_) (fun b ps e => ?_) (fun m hm => ?_) (fun b v e => ?_) I.bare)
    · rw [upd_ne (fun z => by rw [z, ea] at nb; cases nb), upd_ne (Nat.ne_of_lt (Heap.lt_size e))]
      exact nb
    · by_cases hb : b = a
      · exact ⟨_, hb ▸ e1⟩
      · exact ⟨o, kp b o hb e⟩
    · rw [upd_ne (fun z => by rw [z, ea] at e; cases e), upd_ne (ne_of_none e hd)]
      exact e
    · rw [upd_ne (fun z => by rw [z, ea] at e; cases e), upd_ne (ne_of_none e hd)]
      exact e
    · exact ⟨#[], by rw [upd_ne (fun z => by rw [z, ea] at e; cases e), upd_ne (ne_of_none e hd), e]; simp⟩
    · obtain ⟨o, es, ep, ho, r⟩ := hm
      exact ⟨o, es, ep, kp _ o (fun z => by have q := I.free; rw [z, ea] at q; cases q) ho, r⟩
    · by_cases hb : b = a
      · subst hb
        rw [upd_same] at e
        cases e
        exact bareO_ok e1
      · rw [upd_ne hb] at e
        by_cases hb2 : b = hp.objs.size
        · subst hb2
          rw [upd_same] at e
          cases e
          exact ⟨_, ns, fun g => rel_put (fs := []) (mA := fun _ => none) (fun _ => True.intro) ry g⟩
        · rw [upd_ne hb2] at e
          refine (I.hok b v e).stay (fun c o hc q => kp c o (fun z => ?_) q) (fun c q => ?_) fun c xs q => ?_
          · rcases hc with rfl | hc
            · exact hb z
            · rw [z, ea] at hc; cases hc
          · rw [upd_ne (fun z => by rw [z, ea] at q; cases q), upd_ne (ne_of_none q hd)]; exact q
          · rw [upd_ne (fun z => by rw [z, ea] at q; cases q), upd_ne (ne_of_none q hd)]; exact q
/-- one more -/
theorem setb_more {d : Addr} {fs : List (Str × V)} (I : Inv X pins σ H s) (ea : H a = some (bareO a (.ref C) (some d))) (ed : H d = some (.xd fs)) (T : XCls X.K C) (n : NoAttr X.K C f) (hl : fs.length < 1000) (ry : RelV y u)
    (h : ∀ s', Inv X pins σ (upd H d (.xd (putF f y fs))) s' → Q () s') : wpAny (model X.prog X.w) A (setAttr (.ref a) f u) Q E s := by
  obtain ⟨t, e0⟩ := bareO_get I.hok ea
  obtain ⟨mA, hn, rel⟩ := (show ObjOk X.prog X.w H s.heap d (.xd fs) from I.hok d _ ed)
  obtain ⟨hp, g, dr, tk, os⟩ := s
  have KX := I.kIn
  have hda : d ≠ a := fun z => by rw [z, ea] at ed; cases ed
  refine set_attr (mA := mA) (ns := fs.map (·.1)) PySem.F.store_ValueError (T.xc KX) (T.pass KX) (rds_of KX T.sa) (rds_of KX n) ⟨_, e0, rfl, (fun c z => nomatch z), .inr ⟨d, rfl, hda, hn⟩⟩ (within_xd rel) (by rw [List.length_map, sizeLine_eq]; omega) fun h' tk' st => ?_
  obtain ⟨⟨o', i1, i2, i3, i4⟩, keep, same, newd⟩ := st
  obtain ⟨o1, s1, s2, s3, s4, s5⟩ := same _ e0
  have n2 := s5 d rfl
  have q2 : o' = o1 := Option.some.inj (i1.symm.trans s1)
  rw [q2] at i4
  rcases i4 with ⟨z, _⟩ | ⟨d', z, z2, ns⟩
  · rw [n2] at z; cases z
  · rw [n2] at z
    cases z
    have e1 : h'.get? a = some { cls := .ref C, dict := some d, data := .fields #[.ref t, .none, .none, .none, .bool false, .none] } := by
      rw [s1]
      obtain ⟨oc, od, odt, osl⟩ := o1
      dsimp only at s2 s3 s4 n2
      subst s2 s3 s4 n2
      rfl
    have kp : ∀ b o, b ≠ d → hp.get? b = some o → h'.get? b = some o := fun b o hb e => by
      by_cases z : b = a
      · rw [z] at e ⊢
        rw [e0] at e
        cases e
        exact e1
      · exact keep b o z (fun o0 dx q1 q2 => by rw [e0] at q1; cases q1; cases q2; exact hb) e
    refine h _ (I.step (g' := g) (d' := dr) (t' := tk') (ch := []) (fun _ z => nomatch z) (fun b o _ _ _ e nb => kp b o (fun z => by rw [z, ed] at nb; cases nb) e) (fun b o _ _ _ e nb => ⟨o.slots, kp b o (fun z => by rw [z, ed] at nb; cases nb) e⟩)
      (fun b o _ e nb => ?_) (fun b o _ e => ?_) (fun b xs e => ?_) (fun b o v e => ?_) (fun b ps e => ?_) (fun m hm => ?_) (fun b v e => ?_) I.bare)
    · rw [upd_ne (fun z => by rw [z, ed] at nb; cases nb)]
      exact nb
    · by_cases hb : b = d
      · obtain ⟨od, _, _, q, _⟩ := ns
        exact ⟨_, hb ▸ q⟩
      · exact ⟨o, kp b o hb e⟩
    · rw [upd_ne (fun z => by rw [z, ed] at e; cases e)]
      exact e
    · rw [upd_ne (fun z => by rw [z, ed] at e; cases e)]
      exact e
    · exact ⟨#[], by rw [upd_ne (fun z => by rw [z, ed] at e; cases e), e]; simp⟩
    · obtain ⟨o, es, ep, ho, r⟩ := hm
      exact ⟨o, es, ep, kp _ o (fun z => by have q := I.free; rw [z, ed] at q; cases q) ho, r⟩
    · by_cases hb : b = d
      · subst hb
        rw [upd_same] at e
        cases e
        exact ⟨_, ns, fun g => rel_put rel ry g⟩
      · rw [upd_ne hb] at e
        refine (I.hok b v e).stay (fun c o hc q => kp c o (fun z => ?_) q) (fun c q => ?_) fun c xs q => ?_
        · rcases hc with rfl | hc
          · exact hb z
          · rw [z, ed] at hc; cases hc
        · rw [upd_ne (fun z => by rw [z, ed] at q; cases q)]; exact q
        · rw [upd_ne (fun z => by rw [z, ed] at q; cases q)]; exact q
/-- a tracked object of ours is let go -/
theorem letgo {x : Addr} {C : Value} {dx : Option Addr} (I : Inv X pins σ H s) (e : H x = some (bareO x C dx)) : Inv X pins σ (fun b => if b = x then none else H b) s := by
  have go : ∀ {b : Addr} {o : HO}, (fun b => if b = x then none else H b) b = some o → H b = some o := fun {b o} q => by
    dsimp only at q
    split at q
    · cases q
    · exact q
  have off : ∀ {b : Addr}, H b = none → (fun b => if b = x then none else H b) b = none := fun {b} q => by
    dsimp only
    split
    · rfl
    · exact q
  have on : ∀ {b : Addr} {o : HO}, H b = some o → o ≠ bareO x C dx → (fun b => if b = x then none else H b) b = some o := fun {b o} q ne => by
    dsimp only
    rw [if_neg (fun z => ne (by rw [z, e] at q; exact (Option.some.inj q).symm))]
    exact q
  refine ⟨I.ok, I.os, I.bare, ⟨I.base.keep, I.base.slot, fun b ob q n hx => off (I.base.free b ob q n hx), I.base.there, fun b xs q => on (I.base.tups b xs q) (fun z => nomatch z), fun b ob u q => on (I.base.frzs b ob u q) (fun z => nomatch z), fun b ps q => ?_⟩, I.loc, I.cell, off I.free, fun y c q => off (I.freeC y c q), fun p hp => ?_, fun b u q => ?_, I.len⟩
  · obtain ⟨more, q'⟩ := I.base.tbls b ps q
    exact ⟨more, on q' (fun z => nomatch z)⟩
  · obtain ⟨q, n, r⟩ := I.pin p hp
    exact ⟨q, off n, r⟩
  · exact (I.hok b u (go q)).stay (fun _ _ _ z => z) (fun c z => on z (fun z => nomatch z)) fun c xs z => on z (fun z => nomatch z)
end

/-- self.f = value, in the __init__ of an exception -/
def sFldB (K : PySem.W.Frag) (ta tv : TE) (f : Str) : TS := fun D σ H => tv σ H fun y H1 => ta σ H1 fun x H2 => ∃ a C, x = .ref a ∧ XCls K C ∧ NoAttr K C f ∧
  ((H2 a = some (bareO a (.ref C) none) ∧ ∀ d, H2 d = none → d ≠ a → D.nx σ (upd (upd H2 d (.xd (putF f y []))) a (bareO a (.ref C) (some d)))) ∨
   (∃ d fs, H2 a = some (bareO a (.ref C) (some d)) ∧ H2 d = some (.xd fs) ∧ fs.length < 1000 ∧ D.nx σ (upd H2 d (.xd (putF f y fs)))))
section
variable {X : Cx} {o value : Expr} {f : Str} {pos pos' : Pos} {ta tv : TE}
theorem ps_fldB (ha : PE X o ta) (hv : PE X value tv) (hs : swapsWith value (some (.Attribute o f pos')) pos.line X.env = pure false) : PS X (.Assign [.Attribute o f pos'] value pos) (sFldB X.K ta tv f) := by
  intro pins s σ H D I h
  refine plainObj_wpAny_Assign_Attribute (thn (hv pins s σ H _ I h) fun u s1 ⟨y, H1, I1, ry, q⟩ => thn (ha pins s1 σ H1 _ I1 q) fun ov s2 ⟨x, H2, I2, rx, a, C, ex, T, n, q2⟩ => ?_) hs
  subst ex
  obtain rfl : ov = Value.ref a := rx
  rcases q2 with ⟨ea, q2⟩ | ⟨d, fs, ea, ed, l, q2⟩
  · exact setb_new I2 ea T n ry fun d s3 hd hda I3 => ⟨σ, _, I3, q2 d hd hda⟩
  · exact setb_more I2 ea ed T n l ry fun s3 I3 => ⟨σ, _, I3, q2⟩
end

def tRaiseI (R : St → Prop) (C : Addr) (sp : Sp) (ta : TA) (Ek : XK) : TS := fun _ σ H => ta σ H fun vs H1 => vs.length ≤ sizeLine ∧ R σ ∧ ∀ x, H1 x = none →
  sp (.ref x :: vs) (upd H1 x (bareO x (.ref C) none)) (fun v H2 => v = .non ∧ ∃ dx, H2 x = some (bareO x (.ref C) dx) ∧ Ek (.ref C) dx (fun b => if b = x then none else H2 b)) E0
section
variable {X : Cx} {cm : Bool} {k : Nat} {fI : Addr} {fd : FuncData} {ps : List Str} {sp : Sp} {x : Str} {C : Addr} {np cpos pos : Pos} {e : Expr} {es : List Expr} {ta : TA} {R : St → Prop} {Ek : XK}
theorem ps_raiseI (hc : X.calm = true) (hxe : XeIs X R Ek) (hg : Gl X x) (hm : X.mg x = some (.ref C)) (T : XCls X.K C) (hi : PySem.W.findIn X.K (.ref C) "__init__" = some (some (.ref fI))) (hfn : PySem.W.isFn X.K (.ref fI) = true)
    (F : FnOk X.prog X.w X.K X.mg X.base CX0 cm k fI fd ps sp) (hr : Room cm (k + 1) X.A) (hb : Binds X.K fd ps []) (ha : PA X (e :: es) ta)
    (hdb : (x == ("__debug__" : Str)) = false := by decide) (he : starEach (e :: es) X.env = (false, eval e X.env) :: starEach es X.env := by rfl) (hpl : (backTo cpos (starEach (e :: es) X.env)).any (·.1) = false := by rfl) :
    PS X (.Raise (some (.Call (.Name x np) (e :: es) [] cpos)) none pos) (tRaiseI R C sp ta Ek) := by
  intro pins s σ H D I h
  refine raise_call (C := C) (bm := bmOf X.K C) (iv := .ref fI) (I.ok.hd hc) hpl (ld_glob I hg hm ⟨rfl, ?_⟩ hdb)
  have hbk : backTo cpos (starEach (e :: es) X.env) = (false, eval e X.env) :: backTo cpos (starEach es X.env) := by rw [he]; rfl
  rw [hbk]
  refine Calls.evalArgs_plain ?_
  rw [← hbk]
  refine thn (ha cpos pins s σ H _ I h) fun us s1 ⟨vs, H1, I1, r, hl, hR, hE⟩ => ?_
  have hlen : us.length ≤ sizeLine := by rw [← r.length]; exact hl
  refine ⟨rfl, hlen, T.xc I1.kIn, rds_of I1.kIn hi, fun h' x' hm' hs' => ?_⟩
  obtain ⟨hp, g, d, t, os⟩ := s1
  have nx : H1 x' = none := I1.hok.fresh hs'
  have fx : FpOk X pins H1 x' := I1.fpOk hs' nx
  obtain ⟨tt, hx2, htn, ht⟩ := hm'.there
  have I2 : Inv X pins σ H1 ⟨h', g, d, t, os⟩ := I1.kept (t' := t) hm'.keeps
  have I3 := track (o := bareO x' (.ref C) none) I2 fx (bareO_ok hx2)
  refine PySem.W.Looks.here (s := ⟨h', g, d, t, os⟩) (PySem.W.bind_fn I3.kIn (.ref x') (beq_iff_eq.mp hfn)) ?_
  have sp1 := hE x' nx
  have rv : Vals (.ref x' :: vs) (.ref x' :: us) := .cons rfl r
  have hln : (Value.ref x' :: us).length = ps.length := by rw [← rv.length]; exact F.len _ _ _ _ sp1
  have hbi : BindsTo ⟨h', g, d, t, os⟩ fd ⟨.ref x' :: us, []⟩ (ps.zip (.ref x' :: us)) := by
    have z := hb ⟨h', g, d, t, os⟩ (.ref x' :: us) I3.kIn (by rw [List.append_nil]; exact hln)
    rw [List.append_nil] at z
    exact z
  refine wpAny_call (codeAny_mono (F.run _ X.stack _ _ ⟨.ref x' :: us, []⟩ (.ref x' :: us) (.ref x' :: vs) _ E0 (hr.make C us []) (I3.env0.make C us []) hbi rv sp1) fun rr s4 hq => ?_)
  cases rr with
  | error e => exact False.elim hq
  | ok fl =>
    cases fl with
    | next => exact False.elim hq
    | brk => exact False.elim hq
    | cont => exact False.elim hq
    | ret u =>
      obtain ⟨v, H2, os2, bare2, un2, hok2, rv2, rfl, dx, ex, hEk⟩ := hq
      have I4 : Inv X pins σ H2 s4 := I3.call' os2 un2 hok2 bare2 (ch := []) (fun _ z => nomatch z)
      obtain ⟨t4, e4⟩ := bareO_get I4.hok ex
      have I5 := letgo I4 ex
      refine ⟨rv2, T.xc I4.kIn, ⟨dx, t4, e4⟩, hxe pins σ _ s4 x' (.ref C) dx I5 hR ⟨⟨if_pos rfl, fx.2⟩, .inl ⟨_, _, e4, rfl, rfl, rfl, rfl⟩⟩ hEk⟩
end
end L2

set_option Elab.async false
set_option linter.all false
set_option maxRecDepth 100000
namespace L2
open PySem PySem.Spec PyProof.Rows L3
section
variable {X : Cx}
/-- a product of long numbers -/
theorem op_mulB : OpR X (binaryOp .Mult) (rI IntMulOk fun i j => .int (i * j)) := opI fun _ _ _ _ _ _ _ hc q => mul_int q hc
/-- // by a long number -/
theorem op_fdivB : OpR X (binaryOp .FloorDiv) (rI (fun _ j => j ≠ 0 ∧ j.natAbs.log2 < 9000) fun i j => .int (i.fdiv j)) := opI fun _ _ _ _ _ _ _ hc q => floordiv_int hc.1 q (.inl (PyProof.noPylong_of_log2 hc.2))
theorem call_absN : CallR X (.builtin "abs") (fun xs H Q => ∃ i : Int, xs = [.int i] ∧ Q (.int (i.natAbs : Nat)) H) := by
  intro pins s σ H xs us Q I r h
  obtain ⟨i, rfl, q⟩ := h
  obtain ⟨u, rfl, t, rfl⟩ := vals1 r
  have e : (if i < 0 then -i else i) = ((i.natAbs : Nat) : Int) := by split <;> omega
  exact call_abs_int fun u tk => ⟨.int (if i < 0 then -i else i), H, I.tok _, ⟨_, rfl⟩, by rw [e]; exact q⟩
end
theorem bits_of {x : Int} (lo : -(2 ^ 250 * 2 ^ 250 * 2 ^ 250 * 2 ^ 250) ≤ x) (hi : x ≤ 2 ^ 250 * 2 ^ 250 * 2 ^ 250 * 2 ^ 250) : Builtin.Int.intBits x ≤ 1001 := by
  refine PySem.intBits_le_iff.mpr ?_
  have e : (2 : Nat) ^ 1001 = 2 ^ 250 * 2 ^ 250 * 2 ^ 250 * 2 ^ 250 * 2 := by
    rw [show (1001 : Nat) = 250 + 250 + 250 + 250 + 1 from rfl, Nat.pow_add, Nat.pow_add, Nat.pow_add, Nat.pow_add]
  rw [e]
  omega
theorem log_of {y : Int} (h0 : y ≠ 0) (lo : -(2 ^ 250 * 2 ^ 250 * 2 ^ 250 * 2 ^ 250) ≤ y) (hi : y ≤ 2 ^ 250 * 2 ^ 250 * 2 ^ 250 * 2 ^ 250) : y ≠ 0 ∧ y.natAbs.log2 < 9000 := by
  have q := PySem.intBits_le_iff.mp (bits_of lo hi)
  have n0 : y.natAbs ≠ 0 := by omega
  have := (Nat.log2_lt n0).mpr q
  exact ⟨h0, by omega⟩
theorem mul_of {x y : Int} (l1 : -(2 ^ 250 * 2 ^ 250 * 2 ^ 250 * 2 ^ 250) ≤ x) (h1 : x ≤ 2 ^ 250 * 2 ^ 250 * 2 ^ 250 * 2 ^ 250) (l2 : -(2 ^ 250 * 2 ^ 250 * 2 ^ 250 * 2 ^ 250) ≤ y) (h2 : y ≤ 2 ^ 250 * 2 ^ 250 * 2 ^ 250 * 2 ^ 250) : IntMulOk x y :=
  PySem.IntMulOk.of_le (bits_of l1 h1) (bits_of l2 h2) (by decide)
theorem decT {p : Prop} [Decidable p] {A B : Prop} (h : p) (k : A) : if decide p = true then A else B := by rw [if_pos (decide_eq_true h)]; exact k
theorem decF {p : Prop} [Decidable p] {A B : Prop} (h : ¬ p) (k : B) : if decide p = true then A else B := by rw [if_neg (by simpa using h)]; exact k
theorem dec2 {p : Prop} [Decidable p] {A B : Prop} (h1 : p → A) (h2 : ¬ p → B) : if decide p = true then A else B := by
  by_cases h : p
  · exact decT h (h1 h)
  · exact decF h (h2 h)
theorem ndecT {p : Prop} [Decidable p] {A B : Prop} (h : ¬ p) (k : A) : if (!decide p) = true then A else B := by rw [if_pos (by simp [h])]; exact k
theorem ndecF {p : Prop} [Decidable p] {A B : Prop} (h : p) (k : B) : if (!decide p) = true then A else B := by rw [if_neg (by simp [h])]; exact k
theorem ndec2 {p : Prop} [Decidable p] {A B : Prop} (h1 : ¬ p → A) (h2 : p → B) : if (!decide p) = true then A else B := by
  by_cases h : p
  · exact ndecF h (h2 h)
  · exact ndecT h (h1 h)
end L2
namespace L2
open PySem PySem.Spec PyProof.Rows L3
theorem bt_len : bootBuiltins "len" = some (.builtin "len") := by decide +kernel
theorem bt_abs : bootBuiltins "abs" = some (.builtin "abs") := by decide +kernel
theorem bt_isinstance : bootBuiltins "isinstance" = some (.builtin "isinstance") := by decide +kernel
theorem bt_int : bootBuiltins "int" = some (.type "int") := by decide +kernel
theorem bt_bool : bootBuiltins "bool" = some (.type "bool") := by decide +kernel
theorem bt_tuple : bootBuiltins "tuple" = some (.type "tuple") := by decide +kernel
theorem bt_str : bootBuiltins "str" = some (.type "str") := by decide +kernel
theorem bt_ValueError : bootBuiltins "ValueError" = some (.type "ValueError") := by decide +kernel
/-- a def of the text under its global name -/
def Def (K : PySem.W.Frag) (mg : Str → Option Value) (x : Str) (st : Stmt) (dV : Value) : Prop := ∃ f fd, FunD K x x st f fd dV ∧ mg x = some (.ref f)
/-- a def that keeps its promise, as its callers see it; ds: its defaults -/
def Cal (P : Program) (w : World) (K : PySem.W.Frag) (mg : Str → Option Value) (base : Heap) (CX : CXT) (cm : Bool) (k : Nat) (x : Str) (ps : List Str) (ds : List V) (sp : Sp) : Prop :=
  ∃ f fd dvs, FnOk P w K mg base CX cm k f fd ps sp ∧ mg x = some (.ref f) ∧ PySem.W.keepIn K (.ref f) = true ∧ Binds K fd ps [] ∧ Vals ds dvs ∧ Binds K fd ps dvs
theorem FunD.bindsD {K : PySem.W.Frag} {x qual : Str} {st : Stmt} {f T : Addr} {fd : FuncData} {ps : List Str} {ds : List Value} {items : Array Value} {od : Option Addr} {n : Nat} {sl : Array (Option Value)} (F : FunD K x qual st f fd (.ref T))
    (lT : K.lookup T = some ⟨.type "tuple", od, .seq items n, sl⟩) (m : Nat) (hm : m + ds.length = ps.length)
    (h : ∀ (kV doc pm : Value) (an : Option Addr) (cdv ct : Value) (us : List Value), us.length = m →
      ∃ k, bindArgs (PySem.W.fnOf x qual (defArgs st) (defBody st) (defScope st) (.ref T) kV doc pm an cdv ct) ⟨us, []⟩ = seqItems? (.ref T) >>= k ∧ k (some items) = pure (ps.zip (us ++ ds))) : Binds K fd ps ds := by
  obtain ⟨oc, od', kV, doc, pm, an, cdv, ct, osl, rfl, lk, hcd⟩ := F.ex
  intro s us KX hl
  obtain ⟨k, h1, h2⟩ := h kV doc pm an cdv ct us (by rw [List.length_append] at hl; omega)
  exact BindsTo.of_defaults rfl (KX _ _ lT) rfl h1 h2
/-- isinstance within an except suite -/
theorem call_isS {X : Cx} {x : Addr} : CallR (sup X x) (.builtin "isinstance") (rIs X.K) := call_is (X := sup X x)
theorem call_isTS {X : Cx} {x : Addr} : CallR (sup X x) (.builtin "isinstance") (fun xs H Q => ∃ a C dx tp cs us b, xs = [.ref a, .ref tp] ∧ H a = some (excO a (.ref C) dx) ∧ XCls X.K C ∧ H tp = some (.tup cs) ∧ clsVs cs = some us ∧ PySem.W.kitAny X.K (.ref C) us = some b ∧ Q (.bl b) H) := call_isT_exc (X := sup X x)
end L2
namespace L2
open PySem PySem.Spec PyProof.Rows L3
end L2
namespace L2
open PySem PySem.Spec PyProof.Rows L3
theorem Room.sup {cm : Bool} {k : Nat} {A : Around} (r : Room cm k A) (h : Option Value) : Room false k (A.mark h) := ⟨(fun z => nomatch z), r.dp, r.un⟩
end L2

set_option Elab.async false
set_option linter.all false
set_option maxRecDepth 100000
namespace L2
open PySem PySem.Spec PyProof.Rows L3
def eqPl : V → Bool
  | .byt _ => false
  | .flt _ => false
  | _ => true
theorem eqAt_self {A : Around} {s : Shared} {x : V} {v u : Value} (hp : eqPl x = true) (r : RelV x v) (r' : RelV x u) : SeqAt.EqAt A s v u true := by
  cases x with
  | non => cases r; cases r'; exact SeqAt.EqAt.same _
  | bl b => cases r; cases r'; exact SeqAt.EqAt.same _
  | int i =>
    obtain ⟨t, rfl⟩ := r
    obtain ⟨t', rfl⟩ := r'
    have := SeqAt.EqAt.int_int (A := A) (s := s) i t i t'
    rw [beq_self_eq_true] at this
    exact this
  | str i =>
    obtain ⟨t, rfl⟩ := r
    obtain ⟨t', rfl⟩ := r'
    have := SeqAt.EqAt.str_str (A := A) (s := s) i t i t'
    rw [beq_self_eq_true] at this
    exact this
  | byt b => cases hp
  | flt b => cases hp
  | ref a => cases r; cases r'; exact SeqAt.EqAt.same _
  | ty n => cases r; cases r'; exact SeqAt.EqAt.same _
theorem vals_at : ∀ {xs : List V} {us : List Value}, Vals xs us → ∀ j (h : j < us.length), ∃ x, xs[j]? = some x ∧ RelV x us[j] := by
  intro xs us r
  induction r with
  | nil => intro j h; cases h
  | cons r rr ih =>
    intro j h
    cases j with
    | zero => exact ⟨_, rfl, r⟩
    | succ j => exact ih j (by simpa using h)
end L2

set_option Elab.async false
set_option linter.all false
set_option maxRecDepth 100000
namespace L2
open PySem PySem.Spec PyProof.Rows L3
/-- within a comprehension -/
def Cx.inC (X : Cx) (scope : Scope) (cl : List (Str × Addr)) (C : Addr) (s2 : Shared) (H2 : Hp) (fp : List Addr) (N' : List Str) (xe : Value → Shared → Prop) : Cx :=
  { X with N := N', s₀ := s2, H₀ := H2, env := compEnvC scope cl C X.env, outer := X.stack, ex := fp, fn := fun _ => false, pn := [], xe := xe }
def tLC (wi : TI) (te : TE) (js : List Nat) : TE := fun σ H Q => wi σ H fun J H1 => ∃ W : Nat → Nat → List V → Hp → Prop, (∃ m, W 0 m [] H1) ∧ ∀ i m ys H, W i m ys H →
  (J.stop i H ∧ ∀ l, H l = none → Q (.ref l) (upd H l (.lst ys))) ∨ (J.go i H ∧ ys.length < sizeLine ∧ ∃ N : VK, (∀ y H2, N y H2 → ∃ m', m' < m ∧ W (i + 1) m' (ys ++ [y]) H2) ∧ ∀ x H', J.yld i H x H' → te (some x :: js.map (fun j => σ.getD j none)) H' N)
section
variable {X : Cx}
structure LcOk (X : Cx) (x : Str) (scope : Scope) (cl : List (Str × Addr)) (js : List Nat) : Prop where
  clos : closureFor scope X.env = pure cl
  sub : ∀ y c, cl.lookup y = some c → X.env.cells.lookup y = some c
  kind : scope.kind = .function
  cell : ∀ y ∈ scope.names, y.2 ≠ .cell
  names : ∀ y ∈ scope.names, y.2 = .local → scope.names.lookup y.1 = some .local
  loc : scope.names.lookup x = some .local
  has : ∀ y, (((relabel scope X.env).names.lookup y = some .cell) ∨ ((relabel scope X.env).names.lookup y = some .free)) → ∃ c, cl.lookup y = some c
  nd : (x :: js.map (fun j => X.N.getD j "")).Nodup
  fr : ∀ j ∈ js, ∃ y, X.N[j]? = some y ∧ X.env.kindOf y = some .cell ∧ (relabel scope X.env).names.lookup y = some .cell ∧ ∃ c, cl.lookup y = some c
theorem Inv.inC {x : Str} {scope : Scope} {cl : List (Str × Addr)} {js : List Nat} {pins : List (Addr × Obj)} {σ : St} {H2 : Hp} {s2 : Shared} {fp : List Addr} {C D : Addr} {h1 : Heap} {xe : Value → Shared → Prop} {oD : Obj} {m0 : Str → Option Value}
    (L : LcOk X x scope cl js) (I2 : Inv X pins σ H2 s2) (f2 : ∀ b ∈ fp, FpOk X pins H2 b) (fo : ∀ b ∈ fp, ∃ o, s2.heap.get? b = some o) (hC : s2.heap.objs.size ≤ C) (hD : s2.heap.objs.size ≤ D) (hDC : D ≠ C)
    (old : ∀ b o, s2.heap.get? b = some o → h1.get? b = some o) (hns : h1.Ns C m0) (hoD : h1.get? D = some oD) (hdD : ∀ v, oD.data ≠ .cell v) {t' : Nat} :
    Inv (X.inC scope cl C s2 H2 fp (x :: js.map (fun j => X.N.getD j "")) xe) [(D, oD)] (none :: js.map (fun j => σ.getD j none)) H2 { s2 with heap := h1, toks := t' } where
  ok := {
    mod := I2.ok.mod
    kind := L.kind
    glob := I2.ok.glob
    blt := I2.ok.blt
    above := hC
    inj := fun a b c e1 e2 => I2.ok.inj a b c (L.sub a c e1) (L.sub b c e2)
    has := fun y hy => L.has y hy
    cab := fun _ _ z => nomatch z
    hd := I2.ok.hd
    frames := I2.ok.frames
    stk := .inl rfl
    exf := fun b hb => by
      obtain ⟨o, e⟩ := fo b hb
      refine ⟨Nat.ne_of_lt (Nat.lt_of_lt_of_le (Heap.lt_size e) hC), fun y c e' => ?_⟩
      exact (f2 b hb).2.2.2.2.1 y c (L.sub y c e')
    bs := fun b o e => I2.bs b o e
    bsz := Nat.le_trans I2.ok.bsz I2.sz
    noex := fun b o e hb => by
      rcases (f2 b hb).2.2.2.1 with z | z
      · exact I2.ok.noex b o e z
      · exact absurd (Nat.lt_of_lt_of_le (Heap.lt_size e) (Nat.le_trans I2.ok.bsz z)) (Nat.lt_irrefl _)
    exfs := fun b hb z => by
      rcases List.mem_cons.mp (I2.stkSub b z) with e | e
      · exact (f2 b hb).2.1 e
      · exact (f2 b hb).2.2.1 e
    funs := I2.stack
    frf := I2.stkFree }
  os := rfl
  bare := I2.bare
  base := Un.kept old
  loc := by
    refine ⟨m0, hns, fun i y v e1 e2 e3 => ?_⟩
    cases i with
    | zero => cases e2
    | succ k =>
      have e1' : (js.map (fun j => X.N.getD j ""))[k]? = some y := e1
      have e2' : (js.map (fun j => σ.getD j none))[k]? = some (some v) := e2
      rw [List.getElem?_map] at e1' e2'
      cases hj : js[k]? with
      | none => rw [hj] at e1'; cases e1'
      | some j =>
        rw [hj] at e1' e2'
        obtain ⟨y', n1, n2, n3, c, n4⟩ := L.fr j (List.mem_of_getElem? hj)
        have e1'' : X.N.getD j "" = y := Option.some.inj e1'
        have e2'' : σ.getD j none = some v := Option.some.inj e2'
        have : y' = y := by
          rw [List.getD, n1] at e1''
          exact e1''
        subst this
        have hσ : σ[j]? = some (some v) := by
          rw [List.getD] at e2''
          cases q : σ[j]? with
          | none => rw [q] at e2''; cases e2''
          | some z => rw [q] at e2''; exact congrArg some e2''
        obtain ⟨m, hn, hl⟩ := I2.loc
        obtain ⟨u, r, l⟩ := hl j y' v n1 hσ (.inr (.inl n2))
        refine ⟨u, r, ?_⟩
        rcases l with ⟨k1, _⟩ | ⟨_, c', k2, k3⟩
        · rw [n2] at k1; cases k1
        · have : c' = c := by
            have := L.sub _ _ n4
            rw [k2] at this
            exact Option.some.inj this
          subst this
          obtain ⟨o, ho, hd⟩ := k3
          exact .inr ⟨.inl n3, c', n4, o, old _ _ ho, hd⟩
  cell := fun y c e => by
    obtain ⟨v, o, ho, hd⟩ := I2.cell y c (L.sub y c e)
    exact ⟨v, o, old _ _ ho, hd⟩
  free := I2.hok.fresh hC
  freeC := fun y c e => I2.freeC y c (L.sub y c e)
  pin := fun p hp => by
    have e : p = (D, oD) := by simpa [Cx.inC] using hp
    subst e
    refine ⟨hoD, I2.hok.fresh hD, hDC, fun z => ?_, hdD⟩
    rcases List.mem_cons.mp (I2.stkSub D z) with e | e
    · exact absurd I2.lt (by rw [← e]; exact Nat.not_lt.mpr hD)
    · exact I2.nofs hD e
  hok := I2.hok.kept old
  len := by simp [Cx.inC]

theorem lc_core {elt iter : Expr} {x : Str} {px pos cpos : Pos} {scope : Scope} {cl : List (Str × Addr)} {wi : TI} {te : TE} {js : List Nat} {use : Option (Value → Sem Unit)} {Qc : Value → Shared → Prop} {pins : List (Addr × Obj)} {s : Shared} {σ : St} {H : Hp} {Q : VK}
    (hc : X.calm = true) (L : LcOk X x scope cl js) (hi : PI X (.Name x px) iter wi) (G : Cx → Prop)
    (he : ∀ C s2 H2 fp xe, G (X.inC scope cl C s2 H2 fp (x :: js.map (fun j => X.N.getD j "")) xe) → PE (X.inC scope cl C s2 H2 fp (x :: js.map (fun j => X.N.getD j "")) xe) elt te)
    (hG : ∀ (C D : Addr) (s2 : Shared) (H2 : Hp) (fp : List Addr), Inv X pins σ H2 s2 → (∀ b ∈ fp, FpOk X pins H2 b) → (∀ b ∈ fp, ∃ o, s2.heap.get? b = some o) → s2.heap.objs.size < C →
      G (X.inC scope cl C s2 H2 fp (x :: js.map (fun j => X.N.getD j "")) (notedBy (model X.prog X.w) X.A (compEnvC scope cl C X.env) fun e s' => compPost (model X.prog X.w) X.A X.xe use Qc (.ref D) C (.error e) s')))
    (hs : ∀ z, foldedSetIterable iter X.env z = pure z) (I : Inv X pins σ H s) (h : tLC wi te js σ H Q)
    (fin : ∀ (D C : Addr) (H4 : Hp) (s4 : Shared) (m : Str → Option Value), s4.heap.Ns C m → FpOk X pins H4 C → (∀ h', Heap.SameBut C s4.heap h' → Inv X pins σ H4 { s4 with heap := h' }) → Q (.ref D) H4 → compPost (model X.prog X.w) X.A X.xe use Qc (.ref D) C (.ok .next) s4) :
    wpAny (model X.prog X.w) X.A (comprehension (.ListComp elt [⟨.Name x px, iter, [], 0⟩] scope pos) scope X.env cpos (newList []) false (eval iter X.env) use) Qc X.xe s := by
  refine wpAny_comprehension_free (cl := cl) (use := use) rfl hs L.clos L.kind L.names ?_
  refine thn (hi pins s σ H _ I h) fun v s1 h1 => thn h1 fun itv s2 h2 => ?_
  obtain ⟨it, fp, tn, J, H2, e, I2, T, st2, f2, W, ⟨k0, w0⟩, turn⟩ := h2
  subst e
  refine wpAny_newObj_type (wpAny_newFunctionEnv L.cell (by intro y hy; simp at hy) (fun h₁ hns₁ hsb₁ => ?_) L.kind)
  dsimp only at hns₁ hsb₁ ⊢
  generalize hH2 : s2.heap.push { cls := .type "list", dict := none, data := .seq ([] : List Value).toArray } = Hp2 at hns₁ hsb₁ ⊢
  have hC : Hp2.objs.size = s2.heap.objs.size + 1 := by rw [← hH2, Heap.size_push]
  generalize hD0 : s2.heap.objs.size = D at hC ⊢
  generalize hC0 : Hp2.objs.size = C at hC hns₁ hsb₁ ⊢
  have hDC : D ≠ C := by omega
  have below : ∀ b, b < D → b ≠ C := fun b hb => by omega
  have old : ∀ b o, s2.heap.get? b = some o → h₁.get? b = some o := fun b o e =>
    hsb₁.extBut b o (below b (by rw [← hD0]; exact Heap.lt_size e)) (Heap.get?_push_of_some _ (hH2 ▸ Heap.get?_push_of_some _ e))
  have hacc : h₁.get? D = some { cls := .type "list", data := .seq ([] : List Value).toArray 0 } := by
    subst hD0
    exact hsb₁.extBut _ _ hDC (Heap.get?_push_of_some _ (hH2 ▸ Heap.get?_push_size _ rfl))
  have fo : ∀ b ∈ fp, ∃ o, s2.heap.get? b = some o := fun b hb => let ⟨o, e, _⟩ := T.obj _ _ st2 b hb; ⟨o, e⟩
  have flt : ∀ b ∈ fp, b < D := fun b hb => let ⟨o, e⟩ := fo b hb; by rw [← hD0]; exact Heap.lt_size e
  have st1 : tn 0 h₁ := T.keep _ _ _ st2 fun b hb o e => old b o e
  have gx := hG C D s2 H2 fp I2 f2 fo (by omega)
  let R := compPost (model X.prog X.w) X.A X.xe use Qc (.ref D) C
  let xe := notedBy (model X.prog X.w) X.A (compEnvC scope cl C X.env) fun e s' => R (.error e) s'
  let X' := X.inC scope cl C s2 H2 fp (x :: js.map (fun j => X.N.getD j "")) xe
  have I0 : ∀ {t' : Nat}, Inv X' [(D, _)] (none :: js.map (fun j => σ.getD j none)) H2 { s2 with heap := h₁, toks := t' } := fun {t'} =>
    Inv.inC L I2 f2 fo (by omega) (by omega) hDC old hns₁ hacc (fun v z => by cases z)
  have fpk : ∀ {pD : List (Addr × Obj)} {H' : Hp}, (∀ p ∈ pD, p.1 = D) → (∀ b ∈ fp, H' b = none) → ∀ b ∈ fp, FpOk X' pD H' b := fun {pD H'} hp hn b hb => by
    refine ⟨hn b hb, below b (flt b hb), fun z => ?_, .inl hb, fun y c e => (f2 b hb).2.2.2.2.1 y c (L.sub y c e), fun p hp' z => ?_⟩
    · rcases List.mem_cons.mp (I2.stkSub b z) with e | e
      · exact (f2 b hb).2.1 e
      · exact (f2 b hb).2.2.1 e
    · have q := hp p (by simpa [X', Cx.inC] using hp')
      have := flt b hb
      rw [← z, q] at this
      exact Nat.lt_irrefl _ this
  have loop : ∀ s3 : Shared, (∃ k i ys H' its n σ0, Inv X' [(D, { cls := .type "list", data := .seq (its : List Value).toArray n })] (σ0 :: js.map (fun j => σ.getD j none)) H' s3 ∧ tn i s3.heap ∧ (∀ b ∈ fp, H' b = none) ∧ W i k ys H' ∧ Vals ys its ∧ ys.length ≤ sizeLine) →
      codeAny (model X.prog X.w) X.A (.compLoop (.ListComp elt [⟨.Name x px, iter, [], 0⟩] scope pos) 0 (.ref it) (.ref D) (compEnvC scope cl C X.env)) R s3 := by
    rintro s3 ⟨k, hk⟩
    refine codeAny_loop rfl (fun k s3 => ∃ i ys H' its n σ0, Inv X' [(D, { cls := .type "list", data := .seq (its : List Value).toArray n })] (σ0 :: js.map (fun j => σ.getD j none)) H' s3 ∧ tn i s3.heap ∧ (∀ b ∈ fp, H' b = none) ∧ W i k ys H' ∧ Vals ys its ∧ ys.length ≤ sizeLine) (fun k s3 hI => ?_) k hk
    obtain ⟨i, ys, H3, its, n, σ0, I3, st3, fr3, w3, vy, hz⟩ := hI
    show wpAny _ _ ((compTurn (.ListComp elt [⟨.Name x px, iter, [], 0⟩] scope pos) 0 (.ref it) (.ref D) (compEnvC scope cl C X.env)).onRaise (fun x => do noteFrame x (compEnvC scope cl C X.env); theTreesLotGoes x)) _ _ s3
    refine wpAny_noted ?_
    rw [compTurn_list1]
    have hpD : ∀ {o : Obj}, ∀ p ∈ [(D, o)], p.1 = D := fun p hp => by rw [List.mem_singleton.mp hp]
    refine wpAny_bind (wpAny_standAt (wpAny_bind ?_))
    rcases turn i k ys H3 w3 with ⟨stop, qn⟩ | ⟨go, hlen, N, hN, step⟩
    · refine thn (T.done X' rfl rfl rfl hc i _ s3 _ H3 xe I3 (fpk hpD fr3) st3 stop) fun r s4 ⟨hr, I4⟩ => ?_
      subst hr
      refine wpAny_pure ?_
      obtain ⟨m, hn, _⟩ := I4.loc
      obtain ⟨eD, nD, _⟩ := I4.pin (D, _) (List.mem_append_right _ (List.mem_singleton.mpr rfl))
      have fC : FpOk X pins (upd H3 D (.lst ys)) C := I2.fpOk (by omega) (by
        rw [upd_ne (Ne.symm hDC)]
        exact I4.free)
      refine fin D C (upd H3 D (.lst ys)) s4 m hn fC (fun h' sb => ?_) (qn D nD)
      obtain ⟨hh, g, d, t, os'⟩ := s4
      obtain rfl : os' = s2.os := I4.os
      have kp : ∀ b o, b ≠ C → hh.get? b = some o → h'.get? b = some o := fun b o hb e => (sb.2 b hb).trans e
      have lt2 : ∀ b o, s2.heap.get? b = some o → b ≠ C ∧ b ≠ D := fun b o e => by
        have q : b < D := by rw [← hD0]; exact Heap.lt_size e
        exact ⟨below b q, Nat.ne_of_lt q⟩
      have B : Un (frs X.stack) fp H2 H3 s2.heap hh := I4.base
      have hDn : H3 D = none := nD
      have I5 : Inv X pins σ (upd H3 D (.lst ys)) { s2 with heap := h', gens := g, drawn := d, toks := t } := by
        refine I2.call (h' := h') (g' := g) (d' := d) (t' := t) (ch := fp) ⟨?_, ?_, ?_, ?_, ?_, ?_, ?_⟩ ?_ I4.bare ?_
        · exact fun b o e n hb hx => kp b o (lt2 b o e).1 (B.keep b o e n hb hx)
        · intro b o e n hb hx
          obtain ⟨sl, q⟩ := B.slot b o e n hb hx
          exact ⟨sl, kp b _ (lt2 b o e).1 q⟩
        · intro b o e n hx
          rw [upd_ne (lt2 b o e).2]
          exact B.free b o e n hx
        · intro b o e hx
          obtain ⟨o', q⟩ := B.there b o e hx
          exact ⟨o', kp b o' (lt2 b o e).1 q⟩
        · intro b xs e
          have q := B.tups b xs e
          rw [upd_ne (ne_of_none q hDn)]
          exact q
        · intro b o u e
          have q := B.frzs b o u e
          rw [upd_ne (ne_of_none q hDn)]
          exact q
        · intro b ps e
          obtain ⟨more, q⟩ := B.tbls b ps e
          exact ⟨more, by rw [upd_ne (ne_of_none q hDn)]; exact q⟩
        · intro b u e
          by_cases hb : b = D
          · subst hb
            rw [upd_same] at e
            cases e
            exact ⟨hz, its, n, vy, kp _ _ hDC eD⟩
          · rw [upd_ne hb] at e
            have nC : ∀ c o, H3 c = some o → c ≠ C := fun c o q => ne_of_none q I4.free
            refine (I4.hok b u e).stay (fun c v hc' q => kp c v ?_ q) (fun c q => by rw [upd_ne (ne_of_none q hDn)]; exact q) fun c xs q => by rw [upd_ne (ne_of_none q hDn)]; exact q
            rcases hc' with z | z
            · rw [z]; exact nC b u e
            · exact nC c _ z
        · intro b hb
          obtain ⟨_, f1, _, f3, f4, f5⟩ := f2 b hb
          exact ⟨f3, f1, f4, f5⟩
      exact I5
    · refine thn (T.item X' rfl rfl rfl hc i _ s3 _ H3 xe I3 (fpk hpD fr3) st3 go) fun r s4 ⟨u, hr, h4⟩ => ?_
      subst hr
      refine wpAny_bind (thn h4 fun _ s5 ⟨xv, H5, I5, r5, y5, st5, fr5⟩ => ?_)
      have I5' := I5.pinned (fpk hpD fr5) (T.obj _ _ st5)
      refine wpAny_bind (thn (pg_name (X := X') (i := 0) L.nd rfl (Or.inl (lookup_relabel_local L.loc)) (Or.inr (lookup_relabel_local L.loc)) _ s5 _ H5 xv u (fun σ6 H6 => σ6 = some xv :: js.map (fun j => σ.getD j none) ∧ H6 = H5) I5' r5 ⟨rfl, rfl⟩) fun _ s6 ⟨σ6, H6, I6, e6, e6'⟩ => ?_)
      subst e6 e6'
      refine wpAny_bind (wpAny_bind (thn (he C s2 H2 fp xe gx _ s6 _ _ _ I6 (step xv _ y5)) fun y s7 ⟨yv, H7, I7, ry, n7⟩ => ?_))
      obtain ⟨m', hm, w7⟩ := hN yv H7 n7
      have I7' := I7.unpinned
      obtain ⟨eD, nD, neC, nfs, _⟩ := I7'.pin (D, _) (List.mem_append_right _ (List.mem_singleton.mpr rfl))
      have eD' : s7.heap.get? D = some { cls := .type "list", data := .seq its.toArray n } := eD
      have lv := vy.length
      refine wpAny_bind (call_meets F.slot_list_append ⟨_, eD', rfl⟩ F.entry_list_append (F.args_list_append_2 _ _) (PySem.list_append D its.toArray n y (by rw [List.size_toArray]; omega)) ⟨eD', ?_⟩)
      refine wpAny_pure (wpAny_pure ⟨rfl, m', hm, i + 1, ys ++ [yv], H7, its ++ [y], ?_⟩)
      have q := PySem.IsL.update eD' (fun a : Array Value => a.push y)
      have I8 : Inv X' [] (some xv :: js.map (fun j => σ.getD j none)) H7 { s7 with heap := s7.heap.update D (Obj.mapSeq (fun a : Array Value => a.push y)) } :=
        (I7'.pins_of (pins' := []) (fun p hp => nomatch hp)).turned (t' := s7.toks) (it := D) (fun b o hb e => (Heap.get?_update_other s7.heap _ (Ne.symm hb)).trans e) nD neC (.inr (by show s2.heap.objs.size ≤ D; omega))
          (fun z c e w => by
            obtain ⟨v', o', ho', _⟩ := I2.cell z c (L.sub z c e)
            have := Heap.lt_size ho'
            rw [w, hD0] at this
            exact Nat.lt_irrefl _ this) (fun p hp => nomatch hp)
      have pinf : ∀ b ∈ fp, ∀ o, s5.heap.get? b = some o → s7.heap.get? b = some o ∧ H7 b = none := fun b hb o e => by
        have z := I7.pin (b, o) (List.mem_append_right _ (List.mem_append_right _ (mem_pinsAt hb e)))
        exact ⟨z.1, z.2.1⟩
      obtain ⟨n', q'⟩ : ∃ n', (s7.heap.update D (Obj.mapSeq (fun a : Array Value => a.push y))).get? D = some { cls := .type "list", data := .seq (its ++ [y]).toArray n' } := by
        rw [show (its ++ [y]).toArray = its.toArray.push y by simp]
        exact ⟨_, q⟩
      refine ⟨n', some xv, I8.pins_of fun p hp => ?_, ?_, fun b hb => ?_, w7, vy.append (.cons ry .nil), by rw [List.length_append, List.length_singleton]; omega⟩
      · rw [List.mem_singleton.mp hp]
        exact ⟨q', nD, neC, nfs, fun v z => by cases z⟩
      · refine T.keep _ _ _ st5 fun b hb o e => ?_
        have hb' : D ≠ b := fun z => by
          have := flt b hb
          rw [← z] at this
          exact Nat.lt_irrefl _ this
        exact (Heap.get?_update_other s7.heap _ hb').trans (pinf b hb o e).1
      · obtain ⟨o, e, _⟩ := T.obj _ _ st5 b hb
        exact (pinf b hb o e).2
  have start : ∀ {t' : Nat}, ∃ k i ys H' its n σ0, Inv X' [(D, { cls := .type "list", data := .seq (its : List Value).toArray n })] (σ0 :: js.map (fun j => σ.getD j none)) H' { s2 with heap := h₁, toks := t' } ∧ tn i h₁ ∧ (∀ b ∈ fp, H' b = none) ∧ W i k ys H' ∧ Vals ys its ∧ ys.length ≤ sizeLine := fun {t'} =>
    ⟨k0, 0, [], H2, [], 0, none, I0, st1, fun b hb => (f2 b hb).1, w0, .nil, Nat.zero_le _⟩
  exact codeAny_compStart_list (loop _ start) (T.self X.A 0 _ _ _ st1 (loop _ start))
theorem pe_lc {elt iter : Expr} {x : Str} {px pos : Pos} {scope : Scope} {cl : List (Str × Addr)} {wi : TI} {te : TE} (js : List Nat) (hc : X.calm = true) (L : LcOk X x scope cl js) (hi : PI X (.Name x px) iter wi)
    (he : ∀ C s2 H2 fp xe, PE (X.inC scope cl C s2 H2 fp (x :: js.map (fun j => X.N.getD j "")) xe) elt te)
    (hs : ∀ z, foldedSetIterable iter X.env z = pure z := by intro _; rfl) :
    PE X (.ListComp elt [⟨.Name x px, iter, [], 0⟩] scope pos) (tLC wi te js) := by
  intro pins s σ H Q I h
  rw [eval_ListComp]
  exact lc_core (use := none) hc L hi (fun _ => True) (fun C s2 H2 fp xe _ => he C s2 H2 fp xe) (fun _ _ _ _ _ _ _ _ _ => trivial) hs I h fun D C H4 s4 m hn _ I4 q => ⟨m, hn, fun h' sb => ⟨.ref D, H4, I4 h' sb, rfl, q⟩⟩
end
end L2

set_option Elab.async false
set_option linter.all false
set_option maxRecDepth 100000
namespace L2
open PySem PySem.Spec PyProof.Rows L3
/-- a comprehension over a list that stays -/
theorem lc_list {K : PySem.W.Frag} {a : Addr} {xs : List V} {T : V → Hp → VK → Prop} {R : Addr → Hp → List V → Prop} {H : Hp} (Pv : Nat → List V → Hp → Prop) (h0 : Pv 0 [] H) (hn : xs.length ≤ sizeLine) (hl : ∀ i ys H, i ≤ xs.length → Pv i ys H → SqL K H a xs ∧ ys.length = i)
    (hs : ∀ i x ys H, xs[i]? = some x → Pv i ys H → T x H fun y H2 => Pv (i + 1) (ys ++ [y]) H2) (hd : ∀ ys H, Pv xs.length ys H → ∀ l, H l = none → R l H ys) :
    ∃ W : Nat → Nat → List V → Hp → Prop, (∃ m, W 0 m [] H) ∧ ∀ i m ys H, W i m ys H →
      ((Itl K a).stop i H ∧ ∀ l, H l = none → R l H ys) ∨ ((Itl K a).go i H ∧ ys.length < sizeLine ∧ ∃ N : VK, (∀ y H2, N y H2 → ∃ m', m' < m ∧ W (i + 1) m' (ys ++ [y]) H2) ∧ ∀ x H', (Itl K a).yld i H x H' → T x H' N) := by
  refine ⟨fun i m ys H => m = xs.length - i ∧ i ≤ xs.length ∧ Pv i ys H, ⟨xs.length, by simp, Nat.zero_le _, h0⟩, ?_⟩
  rintro i m ys H ⟨rfl, hi, p⟩
  obtain ⟨q, hy⟩ := hl i ys H hi p
  by_cases hlt : i < xs.length
  · refine .inr ⟨⟨xs, xs[i], q, by simp [hlt]⟩, by omega, fun y H2 => Pv (i + 1) (ys ++ [y]) H2, fun y H2 p' => ⟨xs.length - (i + 1), by omega, rfl, hlt, p'⟩, fun x H' ⟨e, y⟩ => ?_⟩
    subst e
    exact hs i x ys _ (y xs q) p
  · have e : i = xs.length := by omega
    subst e
    exact .inl ⟨⟨xs, q, Nat.le_refl _⟩, hd ys H p⟩
theorem ints_of : ∀ {ns : List Int} {its : List Value}, Vals (ns.map V.int) its → IntsAre its ns
  | [], _, .nil => .nil
  | n :: r, _, .cons ⟨t, e⟩ rr => by
    subst e
    exact .cons n t (ints_of rr)
section
variable {X : Cx}
end
theorem lookup_relabel_not {env : Env} {k : NameKind} : ∀ {names : List (Str × NameKind)} {y : Str}, (∀ z ∈ names, z.2 ≠ .free) → (∀ z ∈ names, z.2 ≠ k) → (names.map fun (n, k) => if (k == NameKind.free && env.scope.kind == .function && env.kindOf n == some .cell) then (n, NameKind.cell) else (n, k)).lookup y = some k → False
  | [], _, _, _, h => by simp at h
  | (n, k') :: r, y, hf, hk, h => by
    have e : (k' == NameKind.free) = false := by simpa using hf (n, k') List.mem_cons_self
    rw [List.map_cons] at h
    simp only [e, Bool.false_and, Bool.false_eq_true, if_false] at h
    rw [List.lookup_cons] at h
    cases hx : y == n with
    | true => rw [hx] at h; exact hk (n, k') List.mem_cons_self (Option.some.inj h)
    | false => rw [hx] at h; exact lookup_relabel_not (fun z hz => hf z (List.mem_cons_of_mem _ hz)) (fun z hz => hk z (List.mem_cons_of_mem _ hz)) h
theorem LcOk.plain {X : Cx} {x : Str} {scope : Scope} (hfree : ∀ y ∈ scope.names, y.2 ≠ .free) (hcell : ∀ y ∈ scope.names, y.2 ≠ .cell) (hkind : scope.kind = .function) (hnames : ∀ y ∈ scope.names, y.2 = .local → scope.names.lookup y.1 = some .local)
    (hloc : scope.names.lookup x = some .local) : LcOk X x scope [] [] where
  clos := closureFor_none hfree
  sub := fun _ _ e => nomatch e
  kind := hkind
  cell := hcell
  names := hnames
  loc := hloc
  has := fun y h => by
    rcases h with h | h
    · exact (lookup_relabel_not hfree hcell h).elim
    · exact (lookup_relabel_not hfree hfree h).elim
  nd := by simp
  fr := fun _ h => nomatch h
end L2

set_option Elab.async false
set_option linter.all false
set_option maxRecDepth 100000
namespace L2
open PySem PySem.Spec PyProof.Rows L3
theorem lookup_relabel_free {env : Env} {k : NameKind} (hk : k = .cell ∨ k = .free) : ∀ {names : List (Str × NameKind)} {y : Str}, (∀ z ∈ names, z.2 ≠ .cell) → (names.map fun (n, k) => if (k == NameKind.free && env.scope.kind == .function && env.kindOf n == some .cell) then (n, NameKind.cell) else (n, k)).lookup y = some k → ∃ z ∈ names, z.1 = y ∧ z.2 = .free
  | [], _, _, h => by simp at h
  | (n, k') :: r, y, hc, h => by
    rw [List.map_cons] at h
    have fst : (if (k' == NameKind.free && env.scope.kind == .function && env.kindOf n == some .cell) = true then (n, NameKind.cell) else (n, k')).1 = n := by split <;> rfl
    cases hx : y == n with
    | true =>
      have e : y = n := eq_of_beq hx
      subst e
      by_cases hf : k' = .free
      · exact ⟨(y, k'), List.mem_cons_self, rfl, hf⟩
      · exfalso
        have e : (k' == NameKind.free) = false := by simpa using hf
        simp only [e, Bool.false_and, Bool.false_eq_true, if_false] at h
        rw [List.lookup_cons] at h
        rw [hx] at h
        have h' : k' = k := Option.some.inj h
        rcases hk with z | z
        · exact hc (y, k') List.mem_cons_self (h'.trans z)
        · exact hf (h'.trans z)
    | false =>
      rw [List.lookup_cons] at h
      rw [fst, hx] at h
      obtain ⟨z, m, q⟩ := lookup_relabel_free hk (fun z hz => hc z (List.mem_cons_of_mem _ hz)) h
      exact ⟨z, List.mem_cons_of_mem _ m, q⟩
theorem lookup_mem {cl : List (Str × Addr)} {y : Str} (h : y ∈ cl.map (·.1)) : ∃ c, cl.lookup y = some c := by
  induction cl with
  | nil => cases h
  | cons p r ih =>
    rw [List.lookup_cons]
    cases hx : y == p.1 with
    | true => exact ⟨_, rfl⟩
    | false =>
      rcases List.mem_cons.mp h with e | e
      · rw [e, beq_self_eq_true] at hx; cases hx
      · exact ih e
theorem mem_lookup {cl : List (Str × Addr)} {y : Str} {c : Addr} (h : cl.lookup y = some c) : (y, c) ∈ cl := by
  induction cl with
  | nil => cases h
  | cons p r ih =>
    rw [List.lookup_cons] at h
    cases hx : y == p.1 with
    | true =>
      rw [hx] at h
      have e := eq_of_beq hx
      have e2 : p.2 = c := Option.some.inj h
      rw [show p = (y, c) by rw [e, ← e2]]
      exact List.mem_cons_self
    | false => rw [hx] at h; exact List.mem_cons_of_mem _ (ih h)
theorem LcOk.free {X : Cx} {x : Str} {scope : Scope} {cl : List (Str × Addr)} {js : List Nat} (fns : List Str) (hclos : closureFor scope X.env = pure cl) (hf : cl.map (·.1) = fns) (hsub : ∀ p ∈ cl, X.env.cells.lookup p.1 = some p.2) (hcell : ∀ y ∈ scope.names, y.2 ≠ .cell) (hkind : scope.kind = .function) (hnames : ∀ y ∈ scope.names, y.2 = .local → scope.names.lookup y.1 = some .local)
    (hloc : scope.names.lookup x = some .local) (hcov : ∀ z ∈ scope.names, z.2 = .free → z.1 ∈ fns) (hnd : (x :: js.map (fun j => X.N.getD j "")).Nodup)
    (hfr : ∀ j ∈ js, ∃ y, X.N[j]? = some y ∧ X.env.kindOf y = some .cell ∧ (relabel scope X.env).names.lookup y = some .cell ∧ y ∈ fns) : LcOk X x scope cl js where
  clos := hclos
  sub := fun y c e => hsub (y, c) (mem_lookup e)
  kind := hkind
  cell := hcell
  names := hnames
  loc := hloc
  has := fun y h => by
    have : ∃ z ∈ scope.names, z.1 = y ∧ z.2 = .free := by
      rcases h with h | h
      · exact lookup_relabel_free (.inl rfl) hcell h
      · exact lookup_relabel_free (.inr rfl) hcell h
    obtain ⟨z, m, rfl, e⟩ := this
    exact lookup_mem (by rw [hf]; exact hcov z m e)
  nd := hnd
  fr := fun j hj => by
    obtain ⟨y, a, b, c, d⟩ := hfr j hj
    exact ⟨y, a, b, c, lookup_mem (by rw [hf]; exact d)⟩
end L2

set_option Elab.async false
set_option linter.all false
set_option maxRecDepth 100000
namespace L2
open PySem PySem.Spec PyProof.Rows L3
def tLCIf (wi : TI) (tt : TT) (te : TE) (js : List Nat) : TE := fun σ H Q => wi σ H fun J H1 => ∃ W : Nat → Nat → List V → Hp → Prop, (∃ m, W 0 m [] H1) ∧ ∀ i m ys H, W i m ys H →
  (J.stop i H ∧ ∀ l, H l = none → Q (.ref l) (upd H l (.lst ys))) ∨ (J.go i H ∧ ys.length < sizeLine ∧ ∃ (N : VK) (S : Hp → Prop), (∀ y H2, N y H2 → ∃ m', m' < m ∧ W (i + 1) m' (ys ++ [y]) H2) ∧ (∀ H2, S H2 → ∃ m', m' < m ∧ W (i + 1) m' ys H2) ∧
    ∀ x H', J.yld i H x H' → tt (some x :: js.map (fun j => σ.getD j none)) H' fun b H2 => if b = true then te (some x :: js.map (fun j => σ.getD j none)) H2 N else S H2)
section
variable {X : Cx}
theorem lcIf_core {elt iter c : Expr} {x : Str} {px pos cpos : Pos} {scope : Scope} {cl : List (Str × Addr)} {wi : TI} {te : TE} {tt : TT} {js : List Nat} {use : Option (Value → Sem Unit)} {Qc : Value → Shared → Prop} {pins : List (Addr × Obj)} {s : Shared} {σ : St} {H : Hp} {Q : VK}
    (hc : X.calm = true) (L : LcOk X x scope cl js) (hi : PI X (.Name x px) iter wi)
    (he : ∀ C s2 H2 fp xe, PE (X.inC scope cl C s2 H2 fp (x :: js.map (fun j => X.N.getD j "")) xe) elt te)
    (ht : ∀ C s2 H2 fp xe, PT (X.inC scope cl C s2 H2 fp (x :: js.map (fun j => X.N.getD j "")) xe) c tt)
    (hs : ∀ z, foldedSetIterable iter X.env z = pure z) (I : Inv X pins σ H s) (h : tLCIf wi tt te js σ H Q)
    (fin : ∀ (D C : Addr) (H4 : Hp) (s4 : Shared) (m : Str → Option Value), s4.heap.Ns C m → FpOk X pins H4 C → (∀ h', Heap.SameBut C s4.heap h' → Inv X pins σ H4 { s4 with heap := h' }) → Q (.ref D) H4 → compPost (model X.prog X.w) X.A X.xe use Qc (.ref D) C (.ok .next) s4) :
    wpAny (model X.prog X.w) X.A (comprehension (.ListComp elt [⟨.Name x px, iter, [c], 0⟩] scope pos) scope X.env cpos (newList []) false (eval iter X.env) use) Qc X.xe s := by
  refine wpAny_comprehension_free (cl := cl) (use := use) rfl hs L.clos L.kind L.names ?_
  refine thn (hi pins s σ H _ I h) fun v s1 h1 => thn h1 fun itv s2 h2 => ?_
  obtain ⟨it, fp, tn, J, H2, e, I2, T, st2, f2, W, ⟨k0, w0⟩, turn⟩ := h2
  subst e
  refine wpAny_newObj_type (wpAny_newFunctionEnv L.cell (by intro y hy; simp at hy) (fun h₁ hns₁ hsb₁ => ?_) L.kind)
  dsimp only at hns₁ hsb₁ ⊢
  generalize hH2 : s2.heap.push { cls := .type "list", dict := none, data := .seq ([] : List Value).toArray } = Hp2 at hns₁ hsb₁ ⊢
  have hC : Hp2.objs.size = s2.heap.objs.size + 1 := by rw [← hH2, Heap.size_push]
  generalize hD0 : s2.heap.objs.size = D at hC ⊢
  generalize hC0 : Hp2.objs.size = C at hC hns₁ hsb₁ ⊢
  have hDC : D ≠ C := by omega
  have below : ∀ b, b < D → b ≠ C := fun b hb => by omega
  have old : ∀ b o, s2.heap.get? b = some o → h₁.get? b = some o := fun b o e =>
    hsb₁.extBut b o (below b (by rw [← hD0]; exact Heap.lt_size e)) (Heap.get?_push_of_some _ (hH2 ▸ Heap.get?_push_of_some _ e))
  have hacc : h₁.get? D = some { cls := .type "list", data := .seq ([] : List Value).toArray 0 } := by
    subst hD0
    exact hsb₁.extBut _ _ hDC (Heap.get?_push_of_some _ (hH2 ▸ Heap.get?_push_size _ rfl))
  have fo : ∀ b ∈ fp, ∃ o, s2.heap.get? b = some o := fun b hb => let ⟨o, e, _⟩ := T.obj _ _ st2 b hb; ⟨o, e⟩
  have flt : ∀ b ∈ fp, b < D := fun b hb => let ⟨o, e⟩ := fo b hb; by rw [← hD0]; exact Heap.lt_size e
  have st1 : tn 0 h₁ := T.keep _ _ _ st2 fun b hb o e => old b o e
  let R := compPost (model X.prog X.w) X.A X.xe use Qc (.ref D) C
  let xe := notedBy (model X.prog X.w) X.A (compEnvC scope cl C X.env) fun e s' => R (.error e) s'
  let X' := X.inC scope cl C s2 H2 fp (x :: js.map (fun j => X.N.getD j "")) xe
  have I0 : ∀ {t' : Nat}, Inv X' [(D, _)] (none :: js.map (fun j => σ.getD j none)) H2 { s2 with heap := h₁, toks := t' } := fun {t'} =>
    Inv.inC L I2 f2 fo (by omega) (by omega) hDC old hns₁ hacc (fun v z => by cases z)
  have fpk : ∀ {pD : List (Addr × Obj)} {H' : Hp}, (∀ p ∈ pD, p.1 = D) → (∀ b ∈ fp, H' b = none) → ∀ b ∈ fp, FpOk X' pD H' b := fun {pD H'} hp hn b hb => by
    refine ⟨hn b hb, below b (flt b hb), fun z => ?_, .inl hb, fun y c e => (f2 b hb).2.2.2.2.1 y c (L.sub y c e), fun p hp' z => ?_⟩
    · rcases List.mem_cons.mp (I2.stkSub b z) with e | e
      · exact (f2 b hb).2.1 e
      · exact (f2 b hb).2.2.1 e
    · have q := hp p (by simpa [X', Cx.inC] using hp')
      have := flt b hb
      rw [← z, q] at this
      exact Nat.lt_irrefl _ this
  have loop : ∀ s3 : Shared, (∃ k i ys H' its n σ0, Inv X' [(D, { cls := .type "list", data := .seq (its : List Value).toArray n })] (σ0 :: js.map (fun j => σ.getD j none)) H' s3 ∧ tn i s3.heap ∧ (∀ b ∈ fp, H' b = none) ∧ W i k ys H' ∧ Vals ys its ∧ ys.length ≤ sizeLine) →
      codeAny (model X.prog X.w) X.A (.compLoop (.ListComp elt [⟨.Name x px, iter, [c], 0⟩] scope pos) 0 (.ref it) (.ref D) (compEnvC scope cl C X.env)) R s3 := by
    rintro s3 ⟨k, hk⟩
    refine codeAny_loop rfl (fun k s3 => ∃ i ys H' its n σ0, Inv X' [(D, { cls := .type "list", data := .seq (its : List Value).toArray n })] (σ0 :: js.map (fun j => σ.getD j none)) H' s3 ∧ tn i s3.heap ∧ (∀ b ∈ fp, H' b = none) ∧ W i k ys H' ∧ Vals ys its ∧ ys.length ≤ sizeLine) (fun k s3 hI => ?_) k hk
    obtain ⟨i, ys, H3, its, n, σ0, I3, st3, fr3, w3, vy, hz⟩ := hI
    show wpAny _ _ ((compTurn (.ListComp elt [⟨.Name x px, iter, [c], 0⟩] scope pos) 0 (.ref it) (.ref D) (compEnvC scope cl C X.env)).onRaise (fun x => do noteFrame x (compEnvC scope cl C X.env); theTreesLotGoes x)) _ _ s3
    refine wpAny_noted ?_
    rw [compTurn_list]
    have hpD : ∀ {o : Obj}, ∀ p ∈ [(D, o)], p.1 = D := fun p hp => by rw [List.mem_singleton.mp hp]
    refine wpAny_bind (wpAny_standAt (wpAny_bind ?_))
    rcases turn i k ys H3 w3 with ⟨stop, qn⟩ | ⟨go, hlen, N, S, hN, hS, step⟩
    · refine thn (T.done X' rfl rfl rfl hc i _ s3 _ H3 xe I3 (fpk hpD fr3) st3 stop) fun r s4 ⟨hr, I4⟩ => ?_
      subst hr
      refine wpAny_pure ?_
      obtain ⟨m, hn, _⟩ := I4.loc
      obtain ⟨eD, nD, _⟩ := I4.pin (D, _) (List.mem_append_right _ (List.mem_singleton.mpr rfl))
      have fC : FpOk X pins (upd H3 D (.lst ys)) C := I2.fpOk (by omega) (by
        rw [upd_ne (Ne.symm hDC)]
        exact I4.free)
      refine fin D C (upd H3 D (.lst ys)) s4 m hn fC (fun h' sb => ?_) (qn D nD)
      obtain ⟨hh, g, d, t, os'⟩ := s4
      obtain rfl : os' = s2.os := I4.os
      have kp : ∀ b o, b ≠ C → hh.get? b = some o → h'.get? b = some o := fun b o hb e => (sb.2 b hb).trans e
      have lt2 : ∀ b o, s2.heap.get? b = some o → b ≠ C ∧ b ≠ D := fun b o e => by
        have q : b < D := by rw [← hD0]; exact Heap.lt_size e
        exact ⟨below b q, Nat.ne_of_lt q⟩
      have B : Un (frs X.stack) fp H2 H3 s2.heap hh := I4.base
      have hDn : H3 D = none := nD
      have I5 : Inv X pins σ (upd H3 D (.lst ys)) { s2 with heap := h', gens := g, drawn := d, toks := t } := by
        refine I2.call (h' := h') (g' := g) (d' := d) (t' := t) (ch := fp) ⟨?_, ?_, ?_, ?_, ?_, ?_, ?_⟩ ?_ I4.bare ?_
        · exact fun b o e n hb hx => kp b o (lt2 b o e).1 (B.keep b o e n hb hx)
        · intro b o e n hb hx
          obtain ⟨sl, q⟩ := B.slot b o e n hb hx
          exact ⟨sl, kp b _ (lt2 b o e).1 q⟩
        · intro b o e n hx
          rw [upd_ne (lt2 b o e).2]
          exact B.free b o e n hx
        · intro b o e hx
          obtain ⟨o', q⟩ := B.there b o e hx
          exact ⟨o', kp b o' (lt2 b o e).1 q⟩
        · intro b xs e
          have q := B.tups b xs e
          rw [upd_ne (ne_of_none q hDn)]
          exact q
        · intro b o u e
          have q := B.frzs b o u e
          rw [upd_ne (ne_of_none q hDn)]
          exact q
        · intro b ps e
          obtain ⟨more, q⟩ := B.tbls b ps e
          exact ⟨more, by rw [upd_ne (ne_of_none q hDn)]; exact q⟩
        · intro b u e
          by_cases hb : b = D
          · subst hb
            rw [upd_same] at e
            cases e
            exact ⟨hz, its, n, vy, kp _ _ hDC eD⟩
          · rw [upd_ne hb] at e
            have nC : ∀ c o, H3 c = some o → c ≠ C := fun c o q => ne_of_none q I4.free
            refine (I4.hok b u e).stay (fun c v hc' q => kp c v ?_ q) (fun c q => by rw [upd_ne (ne_of_none q hDn)]; exact q) fun c xs q => by rw [upd_ne (ne_of_none q hDn)]; exact q
            rcases hc' with z | z
            · rw [z]; exact nC b u e
            · exact nC c _ z
        · intro b hb
          obtain ⟨_, f1, _, f3, f4, f5⟩ := f2 b hb
          exact ⟨f3, f1, f4, f5⟩
      exact I5
    · refine thn (T.item X' rfl rfl rfl hc i _ s3 _ H3 xe I3 (fpk hpD fr3) st3 go) fun r s4 ⟨u, hr, h4⟩ => ?_
      subst hr
      refine wpAny_bind (thn h4 fun _ s5 ⟨xv, H5, I5, r5, y5, st5, fr5⟩ => ?_)
      have I5' := I5.pinned (fpk hpD fr5) (T.obj _ _ st5)
      refine wpAny_bind (thn (pg_name (X := X') (i := 0) L.nd rfl (Or.inl (lookup_relabel_local L.loc)) (Or.inr (lookup_relabel_local L.loc)) _ s5 _ H5 xv u (fun σ6 H6 => σ6 = some xv :: js.map (fun j => σ.getD j none) ∧ H6 = H5) I5' r5 ⟨rfl, rfl⟩) fun _ s6 ⟨σ6, H6, I6, e6, e6'⟩ => ?_)
      subst e6 e6'
      refine wpAny_bind (thn (wpAny_tests_one (ht C s2 H2 fp xe _ s6 _ _ _ I6 (step xv _ y5))) fun ok s6b ⟨H6b, I6b, q6b⟩ => ?_)
      cases ok with
      | false =>
        have q6b : S H6b := q6b
        obtain ⟨m', hm, w7⟩ := hS H6b q6b
        have pinf : ∀ b ∈ fp, ∀ o, s5.heap.get? b = some o → s6b.heap.get? b = some o ∧ H6b b = none := fun b hb o e => by
          have z := I6b.pin (b, o) (List.mem_append_right _ (List.mem_append_right _ (mem_pinsAt hb e)))
          exact ⟨z.1, z.2.1⟩
        refine wpAny_pure ⟨rfl, m', hm, i + 1, ys, H6b, its, n, some xv, I6b.unpinned, T.keep _ _ _ st5 fun b hb o e => (pinf b hb o e).1, fun b hb => ?_, w7, vy, hz⟩
        obtain ⟨o, e, _⟩ := T.obj _ _ st5 b hb
        exact (pinf b hb o e).2
      | true =>
        have q6b : te (some xv :: js.map (fun j => σ.getD j none)) H6b N := q6b
        refine wpAny_bind (wpAny_bind (thn (he C s2 H2 fp xe _ s6b _ _ _ I6b q6b) fun y s7 ⟨yv, H7, I7, ry, n7⟩ => ?_))
        obtain ⟨m', hm, w7⟩ := hN yv H7 n7
        have I7' := I7.unpinned
        obtain ⟨eD, nD, neC, nfs, _⟩ := I7'.pin (D, _) (List.mem_append_right _ (List.mem_singleton.mpr rfl))
        have eD' : s7.heap.get? D = some { cls := .type "list", data := .seq its.toArray n } := eD
        have lv := vy.length
        refine wpAny_bind (call_meets F.slot_list_append ⟨_, eD', rfl⟩ F.entry_list_append (F.args_list_append_2 _ _) (PySem.list_append D its.toArray n y (by rw [List.size_toArray]; omega)) ⟨eD', ?_⟩)
        refine wpAny_pure (wpAny_pure ⟨rfl, m', hm, i + 1, ys ++ [yv], H7, its ++ [y], ?_⟩)
        have q := PySem.IsL.update eD' (fun a : Array Value => a.push y)
        have I8 : Inv X' [] (some xv :: js.map (fun j => σ.getD j none)) H7 { s7 with heap := s7.heap.update D (Obj.mapSeq (fun a : Array Value => a.push y)) } :=
          (I7'.pins_of (pins' := []) (fun p hp => nomatch hp)).turned (t' := s7.toks) (it := D) (fun b o hb e => (Heap.get?_update_other s7.heap _ (Ne.symm hb)).trans e) nD neC (.inr (by show s2.heap.objs.size ≤ D; omega))
            (fun z c e w => by
              obtain ⟨v', o', ho', _⟩ := I2.cell z c (L.sub z c e)
              have := Heap.lt_size ho'
              rw [w, hD0] at this
              exact Nat.lt_irrefl _ this) (fun p hp => nomatch hp)
        have pinf : ∀ b ∈ fp, ∀ o, s5.heap.get? b = some o → s7.heap.get? b = some o ∧ H7 b = none := fun b hb o e => by
          have z := I7.pin (b, o) (List.mem_append_right _ (List.mem_append_right _ (mem_pinsAt hb e)))
          exact ⟨z.1, z.2.1⟩
        obtain ⟨n', q'⟩ : ∃ n', (s7.heap.update D (Obj.mapSeq (fun a : Array Value => a.push y))).get? D = some { cls := .type "list", data := .seq (its ++ [y]).toArray n' } := by
          rw [show (its ++ [y]).toArray = its.toArray.push y by simp]
          exact ⟨_, q⟩
        refine ⟨n', some xv, I8.pins_of fun p hp => ?_, ?_, fun b hb => ?_, w7, vy.append (.cons ry .nil), by rw [List.length_append, List.length_singleton]; omega⟩
        · rw [List.mem_singleton.mp hp]
          exact ⟨q', nD, neC, nfs, fun v z => by cases z⟩
        · refine T.keep _ _ _ st5 fun b hb o e => ?_
          have hb' : D ≠ b := fun z => by
            have := flt b hb
            rw [← z] at this
            exact Nat.lt_irrefl _ this
          exact (Heap.get?_update_other s7.heap _ hb').trans (pinf b hb o e).1
        · obtain ⟨o, e, _⟩ := T.obj _ _ st5 b hb
          exact (pinf b hb o e).2
  have start : ∀ {t' : Nat}, ∃ k i ys H' its n σ0, Inv X' [(D, { cls := .type "list", data := .seq (its : List Value).toArray n })] (σ0 :: js.map (fun j => σ.getD j none)) H' { s2 with heap := h₁, toks := t' } ∧ tn i h₁ ∧ (∀ b ∈ fp, H' b = none) ∧ W i k ys H' ∧ Vals ys its ∧ ys.length ≤ sizeLine := fun {t'} =>
    ⟨k0, 0, [], H2, [], 0, none, I0, st1, fun b hb => (f2 b hb).1, w0, .nil, Nat.zero_le _⟩
  exact codeAny_compStart_list (loop _ start) (T.self X.A 0 _ _ _ st1 (loop _ start))
end
end L2

set_option Elab.async false
set_option linter.all false
set_option maxRecDepth 100000
namespace L2
open PySem PySem.Spec PyProof.Rows L3
/-- a dict with these entries, whatever its keys are -/
def RawD (h : Heap) (d : Addr) (es : Array DictEntry) (ep : Nat) : Prop := ∃ o, h.get? d = some o ∧ o.ExactDict ∧ o.data = .dict es ep
section
variable {prog : Program} {w : World} {A : Around} {E : Value → Shared → Prop} {s : Shared}
theorem RawD.typeIs {d : Addr} {es : Array DictEntry} {ep : Nat} (x : RawD s.heap d es ep) : s.TypeIs (.ref d) "dict" := by
  obtain ⟨o, ho, hc, _⟩ := x
  exact ⟨o, ho, hc.1⟩
theorem raw_iter {d : Addr} {es : Array DictEntry} {ep : Nat} {Q : Value → Shared → Prop} (hd : (d == sysModules) = false) (hm : RawD s.heap d es ep)
    (hQ : Q (.ref s.heap.objs.size) { s with heap := s.heap.push { cls := .type "dict_keyiterator", data := .fields #[.ref d, .int 0 0, .int es.size 0, .int ep 0] } }) :
    wpAny (model prog w) A (pyIter (.ref d)) Q E s := by
  have hT := hm.typeIs
  obtain ⟨o, ho, hc, hdat⟩ := hm
  refine wpAny_pyIter_slot hT F.slot_dict_iter (wpAny_call_entry F.slot_dict_iter hT F.entry_dict_iter ?_ (F.args_dict_iter_1 _))
  unfold Builtin.«dict.__iter__» Builtin.Dict.dictSlotNone
  refine wpAny_bind (wpAny_bind (wpAny_notOrdered_dict hT ?_))
  show wpAny _ _ (pure (Value.ref d)) _ _ s
  refine wpAny_pure ?_
  show wpAny _ _ (Builtin.Dict.showsAll d >>= _) _ _ s
  unfold Builtin.Dict.showsAll
  rw [if_neg (by rw [hd]; exact Bool.false_ne_true)]
  refine wpAny_bind (wpAny_pure (wpAny_bind (wpAny_dictEntries ho hdat (wpAny_bind (wpAny_dictEpoch ho hdat ?_)))))
  refine wpAny_bind (wpAny_newObj_type (wpAny_pure ⟨_, rfl, "dict_keyiterator", _, ⟨_, Heap.get?_push_size _ rfl, rfl⟩, F.slot_dict_keyiterator_next.lookup, ?_⟩))
  simpa [rawInt] using hQ
/-- the iterator's next ahead of the item or the end -/
theorem raw_next {it d : Addr} {i ep : Nat} {es : Array DictEntry} {Q : Option Value → Shared → Prop} (hh : A.handled = none) (hit : s.heap.IsKeyIter it d i es.size ep) (hm : RawD s.heap d es ep)
    (h1 : ∀ (h : i < es.size) h', h'.IsKeyIter it d (i + 1) es.size ep → Heap.SameBut it s.heap h' → Q (some es[i].key) { s with heap := h' })
    (h2 : es.size ≤ i → ∀ h', Heap.ExtBut it s.heap h' → Q none { s with heap := h' }) : wpAny (model prog w) A (pyNext (.ref it)) Q E s := by
  obtain ⟨o, ho, hc, hd⟩ := id hit
  obtain ⟨od, hod, hcd, hdd⟩ := id hm
  unfold pyNext
  refine wpAny_bind (wpAny_attempt (wpAny_callSpecial?_slot (name := Str.ofString "__next__") hit.typeIs F.slot_dict_keyiterator_next
    (wpAny_call_entry F.slot_dict_keyiterator_next hit.typeIs F.entry_dict_keyiterator_next ?_ (F.args_dict_keyiterator_next_1 _))))
  refine wpAny_bind (wpAny_pure (wpAny_bind (wpAny_bind ?_)))
  first | refine wpAny_bind (wpAny_typeNameOfWhole_keyiter hit.typeIs (wpAny_pure ?_)) | refine wpAny_bind (wpAny_typeNameOf_keyiter hit.typeIs (wpAny_pure ?_))
  refine wpAny_bind (wpAny_fieldsOf ho hd ?_)
  have hown : Builtin.Dict_items.ownsTuple "dict_keyiterator" = false := by decide
  simp only [hown, Bool.false_eq_true, if_false]
  show wpAny _ _ (if (Value.ref d == Value.none) = true then _ else _) _ _ s
  rw [if_neg (show ¬ ((Value.ref d == Value.none) = true) from Bool.false_ne_true)]
  refine wpAny_bind (wpAny_pure (wpAny_bind (wpAny_dictEntries hod hdd ?_)))
  rw [if_neg (by simp)]
  refine wpAny_bind (wpAny_pure (wpAny_bind (wpAny_dictEpoch hod hdd ?_)))
  rw [if_neg (by simp)]
  refine wpAny_pure ?_
  rcases Nat.lt_or_ge i es.size with hlt | hge
  · simp only [show ¬ ((i : Int) < 0) from by omega, if_false, Int.toNat_natCast, Array.getElem?_eq_getElem hlt]
    refine wpAny_bind ?_
    first | refine wpAny_bind (wpAny_typeNameOfWhole_keyiter hit.typeIs (wpAny_pure ?_)) | refine wpAny_bind (wpAny_typeNameOf_keyiter hit.typeIs (wpAny_pure ?_))
    refine wpAny_bind (wpAny_isOneOf_keyiter hit.typeIs ?_)
    show wpAny _ _ (setField (.ref it) 1 (rawInt ((i : Int) + 1)) >>= _) _ _ s
    refine wpAny_bind (wpAny_setField ho hd (by simp) ?_)
    have hit' : (s.heap.update it (Obj.mapFields (·.setIfInBounds 1 (rawInt ((i : Int) + 1))))).IsKeyIter it d (i + 1) es.size ep :=
      ⟨_, Heap.get?_update_self _ ho (Obj.isFreed_of_fields (Obj.data_mapFields hd _)), (Obj.cls_mapFields ..).trans hc, by rw [Obj.data_mapFields hd]; simp [rawInt]⟩
    refine wpAny_bind (wpAny_holding ?_)
    refine wpAny_bind (wpAny_isOneOf_keyiter (s := { s with heap := s.heap.update it (Obj.mapFields (·.setIfInBounds 1 (rawInt ((i : Int) + 1)))) }) hit'.typeIs ?_)
    show wpAny _ _ (pure es[i].key) _ _ _
    exact wpAny_pure (wpAny_pure ⟨_, rfl, wpAny_pure (h1 hlt _ hit' (Heap.SameBut.update ..))⟩)
  · simp only [show ¬ ((i : Int) < 0) from by omega, if_false, Int.toNat_natCast, Array.getElem?_eq_none hge]
    refine wpAny_bind ?_
    first | refine wpAny_bind (wpAny_typeNameOfWhole_keyiter hit.typeIs (wpAny_pure ?_)) | refine wpAny_bind (wpAny_typeNameOf_keyiter hit.typeIs (wpAny_pure ?_))
    show wpAny _ _ (setField (.ref it) 0 .none >>= _) _ _ s
    refine wpAny_bind (wpAny_setField ho hd (by simp) ?_)
    show wpAny _ _ (newExc (.type "StopIteration") [] >>= _) _ _ _
    refine wpAny_bind ?_
    simp only [newExc, newTuple]
    refine wpAny_bind (wpAny_newObj_type ?_ (by size_fits))
    refine wpAny_bind (m := firstArgMember _ _) (wpAny_of_eq (a := Value.none) (by first | rfl | (simp only [firstArgMember]; rfl)) ?_)
    refine wpAny_newObj_type ?_ (by size_fits)
    simp only [raiseNew]
    refine wpAny_bind (wpAny_handled ?_)
    rw [show A.in1.handled = none from hh]
    refine wpAny_bind (wpAny_pure (wpAny_throw ?_))
    refine wpAny_bind (wpAny_isInstance (T := "StopIteration") (b := true) ⟨_, Heap.get?_push_size _ rfl, rfl⟩ isSubtype_stop ?_)
    exact wpAny_pure (h2 hge _ (((Heap.SameBut.update ..).extBut.push _).push _))
end
section
variable {X : Cx}
theorem call_max {k : Nat} (hr : Room true k X.A) : CallR X (.builtin "max") (fun xs H Q => ∃ (p : Addr) (ns : List Int), xs = [.ref p] ∧ SqL X.K H p (ns.map V.int) ∧ 0 < ns.length ∧ ∀ m, m ∈ ns → (∀ a ∈ ns, a ≤ m) → Q (.int m) H) := by
  intro pins s σ H xs us Q I r h
  obtain ⟨p, ns, rfl, hq, hn, q⟩ := h
  obtain ⟨u, rfl, rx⟩ := vals1 r
  cases rx
  obtain ⟨its, r', pl, hz⟩ := I.list hq
  have hi := ints_of r'
  have hl := pl.isList
  obtain ⟨xs, e⟩ := hi.allInts.items
  have hns : ns = xs.toList.map (·.1) := by
    rw [← hi.numsOf, ← nums_intItems, ← e]
  have hsz : 0 < xs.size := by
    have h3 := hn; rw [hns, List.length_map, Array.length_toList] at h3; exact h3
  rw [e] at hl
  refine max_intList (hr.hd rfl) hl hsz fun v h' tk hv hk => ?_
  obtain ⟨t, rfl⟩ := intItems_at hv
  obtain ⟨h1, h2⟩ := argBest_gt (numAt xs) (xs.size - 1)
  refine ⟨.int _, H, I.kept hk, ⟨t, rfl⟩, q _ ?_ fun a ha => ?_⟩
  · rw [hns, numAt_eq]; exact getD_mem (by rw [List.length_map, Array.length_toList]; omega)
  · rw [hns] at ha
    obtain ⟨j, hj, rfl⟩ := mem_getD ha
    rw [List.length_map, Array.length_toList] at hj
    rw [← numAt_eq]; exact h2 j (by omega)
end
theorem bt_max : bootBuiltins "max" = some (.builtin "max") := by decide +kernel
end L2

set_option Elab.async false
set_option linter.all false
set_option maxRecDepth 100000
namespace L2
open PySem PySem.Spec PyProof.Rows L3
section
variable {X : Cx} {pins : List (Addr × Obj)} {σ : St} {H : Hp} {s : Shared}
/-- a tracked dict is frozen: its raw object stays -/
theorem Inv.freeze {d : Addr} {kvs : List (List Key × V)} {o : Obj} (I : Inv X pins σ H s) (hd : H d = some (.dT kvs)) (ho : s.heap.get? d = some o) : Inv X pins σ (upd H d (.frz o (.dT kvs))) s := by
  have ne : ∀ b, H b = none → b ≠ d := fun b e z => by rw [z, hd] at e; cases e
  refine I.step (h' := s.heap) (g' := s.gens) (t' := s.toks) (d' := s.drawn) (ch := []) (fun _ z => nomatch z) (fun b o _ _ _ e _ => e) (fun b o _ _ _ e _ => ⟨o.slots, e⟩) (fun b o _ _ n => by rw [upd_ne (ne b n)]; exact n) (fun b o _ e => ⟨o, e⟩)
    (fun b xs e => ?_) (fun b o u e => ?_) (fun b ps e => ⟨#[], ?_⟩) (fun m h => h) ?_ I.bare
  · rw [upd_ne (ne_of e hd (by intro z; cases z))]; exact e
  · rw [upd_ne (ne_of e hd (by intro z; cases z))]; exact e
  · rw [upd_ne (ne_of e hd (by intro z; cases z))]; simpa using e
  · have own : ∀ (c y : Addr), H c = some (.own y) → upd H d (.frz o (.dT kvs)) c = some (.own y) := fun c y e => by rw [upd_ne (ne_of e hd (by intro z; cases z))]; exact e
    have tup : ∀ (c : Addr) (xs : List V), H c = some (.tup xs) → upd H d (.frz o (.dT kvs)) c = some (.tup xs) := fun c xs e => by rw [upd_ne (ne_of e hd (by intro z; cases z))]; exact e
    intro b u e
    by_cases hb : b = d
    · subst hb
      rw [upd_same] at e
      cases e
      exact ⟨ho, (I.hok b _ hd).stay (fun _ _ _ q => q) (fun c q => own c b q) tup⟩
    · rw [upd_ne hb] at e
      exact (I.hok b u e).stay (fun _ _ _ q => q) (fun c q => own c b q) tup
/-- .. and thawed -/
theorem Inv.thaw {d : Addr} {kvs : List (List Key × V)} {o : Obj} (I : Inv X pins σ H s) (hd : H d = some (.frz o (.dT kvs))) (hn : ∀ o' u', X.H₀ d ≠ some (.frz o' u')) : Inv X pins σ (upd H d (.dT kvs)) s := by
  have ne : ∀ b, H b = none → b ≠ d := fun b e z => by rw [z, hd] at e; cases e
  have nn : ∀ b, H b = none → upd H d (.dT kvs) b = none := fun b e => by rw [upd_ne (ne b e)]; exact e
  have own : ∀ (c y : Addr), H c = some (.own y) → upd H d (.dT kvs) c = some (.own y) := fun c y e => by rw [upd_ne (ne_of e hd (by intro z; cases z))]; exact e
  have tup : ∀ (c : Addr) (xs : List V), H c = some (.tup xs) → upd H d (.dT kvs) c = some (.tup xs) := fun c xs e => by rw [upd_ne (ne_of e hd (by intro z; cases z))]; exact e
  refine ⟨I.ok, I.os, I.bare, ⟨I.base.keep, I.base.slot, fun b o e n hx => nn b (I.base.free b o e n hx), I.base.there, fun b xs e => tup b xs (I.base.tups b xs e), fun b o' u e => ?_, fun b ps e => ?_⟩, I.loc, I.cell, nn _ I.free, fun x c e => nn _ (I.freeC x c e), fun p hp => ?_, ?_, I.len⟩
  · have q := I.base.frzs b o' u e
    rw [upd_ne (fun z => hn o' u (by rw [← z]; exact e))]
    exact q
  · obtain ⟨more, q⟩ := I.base.tbls b ps e
    exact ⟨more, by rw [upd_ne (ne_of q hd (by intro z; cases z))]; exact q⟩
  · obtain ⟨a, b, c⟩ := I.pin p hp
    exact ⟨a, nn _ b, c⟩
  · intro b u e
    by_cases hb : b = d
    · subst hb
      rw [upd_same] at e
      cases e
      exact (show ObjOk X.prog X.w H s.heap b (.frz o (.dT kvs)) from I.hok b _ hd).2.stay (fun _ _ _ q => q) (fun c q => own c b q) tup
    · rw [upd_ne hb] at e
      exact (I.hok b u e).stay (fun _ _ _ q => q) (fun c q => own c b q) tup
end
/-- the keys of a frozen dict -/
def ItD (d : Addr) (o : Obj) (kvs : List (List Key × V)) (as : List Addr) : It :=
  ⟨fun i H => H d = some (.frz o (.dT kvs)) ∧ i < as.length, fun i H x H' => H' = H ∧ ∃ a, as[i]? = some a ∧ x = .ref a, fun i H => H d = some (.frz o (.dT kvs)) ∧ as.length ≤ i⟩
theorem turn_dict {P : Program} {w : World} {K : PySem.W.Frag} {tg : Expr} {d it : Addr} {o : Obj} {kvs : List (List Key × V)} {as : List Addr} {es : Array DictEntry} {ep : Nat} (hc : o.ExactDict) (hd : o.data = .dict es ep) (hl : es.size = as.length)
    (hk : ∀ i (h : i < es.size), ∃ a, as[i]? = some a ∧ es[i].key = .ref a) : Turn P w K tg (ItD d o kvs as) [it] it (fun i h => h.IsKeyIter it d i es.size ep) where
  mem := by simp
  obj := fun i h st b hb => by
    have e : b = it := by simpa using hb
    subst e
    obtain ⟨o, e, c, d⟩ := st
    exact ⟨o, e, fun v z => by rw [d] at z; cases z⟩
  keep := fun i h h' st k => st.at fun o e => k it (by simp) o e
  item := by
    intro X hP hw hK hcm i pins s σ H E I hf st hg
    subst hP hw hK
    obtain ⟨hdf, hlt⟩ := hg
    obtain ⟨f0, f1, f2, f3, f4, f5⟩ := hf it (by simp)
    have raw : RawD s.heap d es ep := ⟨o, (show ObjOk X.prog X.w H s.heap d (.frz o (.dT kvs)) from I.hok d _ hdf).1, hc, hd⟩
    refine raw_next (I.ok.hd hcm) st raw (fun hi h' st' sb => ?_) fun hge => absurd hge (by omega)
    obtain ⟨a, ha, hka⟩ := hk i hi
    have I1 : Inv X pins σ H { s with heap := h' } := I.turned (t' := s.toks) (fun b o hb e => (sb.2 b hb).trans e) f0 f1 f3 f4 f5
    obtain ⟨o', e, c, d'⟩ := id st'
    exact ⟨_, rfl, go_of (s := { s with heap := h' }) e c d' (by decide) ⟨.ref a, H, I1, hka, ⟨rfl, a, ha, rfl⟩, st', fun b hb => (hf b hb).1⟩⟩
  done := by
    intro X hP hw hK hcm i pins s σ H E I hf st hg
    subst hP hw hK
    obtain ⟨hdf, hge⟩ := hg
    obtain ⟨f0, f1, f2, f3, f4, f5⟩ := hf it (by simp)
    have raw : RawD s.heap d es ep := ⟨o, (show ObjOk X.prog X.w H s.heap d (.frz o (.dT kvs)) from I.hok d _ hdf).1, hc, hd⟩
    exact raw_next (I.ok.hd hcm) st raw (fun hi => absurd hi (by omega)) fun _ h' eb => ⟨rfl, I.turned (t' := s.toks) (fun b o hb e => eb b o hb e) f0 f1 f3 f4 f5⟩
  self := fun _ _ _ _ _ st h => wpAny_pyIter_keyiter st h
section
variable {X : Cx}
theorem paired_as {P : Program} {w : World} {H : Hp} : ∀ {kvs : List (List Key × V)} {xs : List (List Key × Addr × Value)}, Paired (fun (p : List Key × V) (q : List Key × Addr × Value) => p.1 = q.1 ∧ H q.2.1 = some (.tup (p.1.map kV)) ∧ RelV p.2 q.2.2) kvs xs →
    Paired (fun (p : List Key × V) (a : Addr) => H a = some (.tup (p.1.map kV))) kvs (xs.map (·.2.1))
  | _, _, .nil => .nil
  | _, _, .cons r rr => .cons r.2.1 (paired_as (P := P) (w := w) rr)
def iDT (X : Cx) (te : TE) : TI := fun σ H R => te σ H fun x H1 => ∃ (d : Addr) (kvs : List (List Key × V)), x = .ref d ∧ H1 d = some (.dT kvs) ∧ ∀ (o : Obj) (as : List Addr), (∀ o' u', X.H₀ d ≠ some (.frz o' u')) → Paired (fun (p : List Key × V) (a : Addr) => H1 a = some (.tup (p.1.map kV))) kvs as → R (ItD d o kvs as) (upd H1 d (.frz o (.dT kvs)))
theorem pi_dT {tg e : Expr} {te : TE} (he : PE X e te) : PI X tg e (iDT X te) := by
  intro pins s σ H R I h
  refine thn (he pins s σ H _ I h) fun v s1 ⟨x, H1, I1, r1, q1⟩ => ?_
  obtain ⟨d, kvs, rfl, hd, q⟩ := q1
  cases r1
  obtain ⟨hz, hsm, xs, pr, o, es, ep, ho, hc, hdat, hes, hnd⟩ := (show ObjOk X.prog X.w H1 s1.heap d (.dT kvs) from I1.hok d _ hd)
  have hn : ∀ o' u', X.H₀ d ≠ some (.frz o' u') := fun o' u' e => by
    have := I1.base.frzs d o' u' e
    rw [hd] at this
    cases this
  have hl : es.size = (xs.map (·.2.1)).length := by
    rw [← Array.length_toList, hes, List.length_map, List.length_map]
  have hk : ∀ i (h : i < es.size), ∃ a, (xs.map (·.2.1))[i]? = some a ∧ es[i].key = .ref a := fun i h => by
    have e1 : es.toList[i]? = some es[i] := by simp [h]
    rw [hes, List.getElem?_map] at e1
    cases q : xs[i]? with
    | none => rw [q] at e1; cases e1
    | some z =>
      rw [q] at e1
      refine ⟨z.2.1, by rw [List.getElem?_map, q]; rfl, ?_⟩
      rw [← Option.some.inj e1]
      rfl
  have I2 := I1.freeze hd ho
  refine raw_iter hsm ⟨o, ho, hc, hdat⟩ ?_
  have k : ∀ b u, s1.heap.get? b = some u → (s1.heap.push { cls := .type "dict_keyiterator", data := .fields #[.ref d, .int 0 0, .int es.size 0, .int ep 0] }).get? b = some u := fun b u e => Heap.get?_push_of_some _ e
  have I3 : Inv X pins σ (upd H1 d (.frz o (.dT kvs))) { s1 with heap := s1.heap.push { cls := .type "dict_keyiterator", data := .fields #[.ref d, .int 0 0, .int es.size 0, .int ep 0] } } := I2.kept (t' := s1.toks) k
  refine ⟨s1.heap.objs.size, [s1.heap.objs.size], _, ItD d o kvs (xs.map (·.2.1)), upd H1 d (.frz o (.dT kvs)), rfl, I3, turn_dict hc hdat hl hk, ⟨_, Heap.get?_push_size _ rfl, rfl, rfl⟩, fun b hb => ?_, q o _ hn (paired_as (P := X.prog) (w := X.w) pr)⟩
  rw [List.mem_singleton.mp hb]
  exact I2.fpOk (Nat.le_refl _) (I2.hok.fresh (Nat.le_refl _))
/-- [E for k in D if T]: D a dict with tuple keys; T and E leave the heap -/
def tLCD (ti : TE) (tt : TT) (te : TE) (js : List Nat) : TE := fun σ H Q => ti σ H fun x H1 => ∃ (d : Addr) (kvs : List (List Key × V)) (f : List Key → Bool) (g : List Key → V), x = .ref d ∧ H1 d = some (.dT kvs) ∧ kvs.length < sizeLine ∧
  (∀ ks ∈ kvs.map (·.1), ∀ (a : Addr) (Hx : Hp), Hx a = some (.tup (ks.map kV)) → tt (some (.ref a) :: js.map (fun j => σ.getD j none)) Hx fun b H2 => if b = true then te (some (.ref a) :: js.map (fun j => σ.getD j none)) H2 (fun y H3 => f ks = true ∧ y = g ks ∧ H3 = Hx) else (f ks = false ∧ H2 = Hx)) ∧
  ∀ l, H1 l = none → Q (.ref l) (upd H1 l (.lst (((kvs.map (·.1)).filter f).map g)))
theorem lcd_of {ti : TE} {tt : TT} {te : TE} {js : List Nat} {σ : St} {H : Hp} {Q : VK} (mono : ∀ σ H Q Q', (∀ x H1, Q x H1 → Q' x H1) → ti σ H Q → ti σ H Q') (h : tLCD ti tt te js σ H Q) :
    tLCIf (iDT X ti) tt te js σ H (fun v H4 => ∃ (l d : Addr) (H1 : Hp) (o : Obj) (kvs : List (List Key × V)) (ys : List V), v = .ref l ∧ H1 d = some (.dT kvs) ∧ H1 l = none ∧ l ≠ d ∧ H4 = upd (upd H1 d (.frz o (.dT kvs))) l (.lst ys) ∧ (∀ o' u', X.H₀ d ≠ some (.frz o' u')) ∧ Q (.ref l) (upd H1 l (.lst ys))) := by
  refine mono σ H _ _ (fun x H1 q => ?_) h
  obtain ⟨d, kvs, f, g, rfl, hd, hz, hs, q⟩ := q
  refine ⟨d, kvs, rfl, hd, fun o as hn pr => ?_⟩
  have hlen := pr.length
  refine ⟨fun i m ys Hx => m = kvs.length - i ∧ i ≤ kvs.length ∧ Hx = upd H1 d (.frz o (.dT kvs)) ∧ ys = (((kvs.map (·.1)).take i).filter f).map g, ⟨kvs.length, by simp, Nat.zero_le _, rfl, rfl⟩, ?_⟩
  rintro i m ys Hx ⟨rfl, hi, rfl, rfl⟩
  by_cases hlt : i < kvs.length
  · refine .inr ⟨⟨upd_same, by omega⟩, ?_, ?_⟩
    · refine Nat.lt_of_le_of_lt ?_ hz
      rw [List.length_map]
      refine Nat.le_trans (List.length_filter_le ..) ?_
      rw [List.length_take, List.length_map]
      omega
    · have hks : (kvs.map (·.1))[i]? = some kvs[i].1 := by rw [List.getElem?_map, List.getElem?_eq_getElem hlt]; rfl
      have tk : (kvs.map (·.1)).take (i + 1) = (kvs.map (·.1)).take i ++ [kvs[i].1] := by rw [List.take_add_one, hks]; rfl
      refine ⟨fun y H3 => f kvs[i].1 = true ∧ y = g kvs[i].1 ∧ H3 = upd H1 d (.frz o (.dT kvs)), fun H2 => f kvs[i].1 = false ∧ H2 = upd H1 d (.frz o (.dT kvs)), ?_, ?_, ?_⟩
      · rintro y H2 ⟨e1, rfl, rfl⟩
        refine ⟨kvs.length - (i + 1), by omega, rfl, hlt, rfl, ?_⟩
        rw [tk, List.filter_append, List.map_append]
        simp [e1]
      · rintro H2 ⟨e1, rfl⟩
        refine ⟨kvs.length - (i + 1), by omega, rfl, hlt, rfl, ?_⟩
        rw [tk, List.filter_append, List.map_append]
        simp [e1]
      · rintro x H' ⟨rfl, a, ha, rfl⟩
        refine hs kvs[i].1 (List.mem_of_getElem? hks) a _ ?_
        have pa : ∀ {l : List (List Key × V)} {bs : List Addr}, Paired (fun (p : List Key × V) (a : Addr) => H1 a = some (.tup (p.1.map kV))) l bs → ∀ (i : Nat) (h : i < l.length) (b : Addr), bs[i]? = some b → H1 b = some (.tup (l[i].1.map kV)) := by
          intro l bs pr
          induction pr with
          | nil => intro i h; cases h
          | cons r rr ih =>
            intro i h b e
            cases i with
            | zero => cases e; exact r
            | succ j => exact ih j (by simpa using h) b (by simpa using e)
        have ht := pa pr i hlt a ha
        rw [upd_ne (ne_of ht hd (by intro z; cases z))]
        exact ht
  · have e : i = kvs.length := by omega
    subst e
    refine .inl ⟨⟨upd_same, by omega⟩, fun l hl => ?_⟩
    have nd : l ≠ d := fun z => by rw [z, upd_same] at hl; cases hl
    rw [upd_ne nd] at hl
    refine ⟨l, d, H1, o, kvs, _, rfl, hd, hl, nd, rfl, hn, ?_⟩
    rw [show (kvs.map (·.1)).take kvs.length = kvs.map (·.1) by rw [← List.length_map (f := (·.1)), List.take_length]]
    exact q l hl
theorem thaw_eq {H1 : Hp} {d l : Addr} {o : Obj} {kvs : List (List Key × V)} {u : HO} (hd : H1 d = some (.dT kvs)) (hl : l ≠ d) : upd (upd (upd H1 d (.frz o (.dT kvs))) l u) d (.dT kvs) = upd H1 l u := by
  funext b
  by_cases h1 : b = d
  · subst h1
    rw [upd_same, upd_ne (Ne.symm hl), hd]
  · rw [upd_ne h1]
    by_cases h2 : b = l
    · subst h2
      rw [upd_same, upd_same]
    · rw [upd_ne h2, upd_ne h2, upd_ne h1]
def MonoE (ti : TE) : Prop := ∀ σ H Q Q', (∀ x H1, Q x H1 → Q' x H1) → ti σ H Q → ti σ H Q'
theorem ps_setLCD {i : Nat} {t : Str} {elt iter c : Expr} {x : Str} {px pos cpos pos' : Pos} {scope : Scope} {cl : List (Str × Addr)} {ti : TE} {te : TE} {tt : TT} (js : List Nat) (hN : X.N.Nodup) (hi' : X.N[i]? = some t) (hx : Loc X.env.scope t) (hc : X.calm = true) (L : LcOk X x scope cl js) (hi : PE X iter ti) (mono : MonoE ti)
    (ht : ∀ C s2 H2 fp xe, PT (X.inC scope cl C s2 H2 fp (x :: js.map (fun j => X.N.getD j "")) xe) c tt)
    (he : ∀ C s2 H2 fp xe, PE (X.inC scope cl C s2 H2 fp (x :: js.map (fun j => X.N.getD j "")) xe) elt te)
    (hs : ∀ z, foldedSetIterable iter X.env z = pure z := by intro _; rfl) (hsw : swapsWith (.ListComp elt [⟨.Name x px, iter, [c], 0⟩] scope cpos) (some (.Name t pos')) pos.line X.env = pure true := by rfl)
    (hf : X.fn t = true ∨ X.env.scope.names.lookup t = some .local := by first | exact .inl rfl | exact .inr rfl | assumption) :
    PS X (.Assign [.Name t pos'] (.ListComp elt [⟨.Name x px, iter, [c], 0⟩] scope cpos) pos) (tAsg (tLCD ti tt te js) (gName i)) := by
  intro pins s σ H D I h
  rw [exec_Assign_Name_used _ _ _ _ hsw]
  refine wpAny_bind (wpAny_standAt (wpAny_bind ?_))
  show wpAny _ X.A (do let _ ← comprehension (.ListComp elt [⟨.Name x px, iter, [c], 0⟩] scope cpos) scope X.env _ (newList []) false (eval iter X.env) (some (assign (.Name t pos') X.env))) _ _ s
  refine wpAny_bind (wpAny_mono (lcIf_core (use := some (assign (.Name t pos') X.env)) (Qc := fun _ s' => SP X pins D .next s') hc L (pi_dT hi) he ht hs I (lcd_of (X := X) mono h) fun Dl C H4 s4 m hn fC I4 q => ?_) (fun _ s' hq => wpAny_pure (wpAny_pure hq)) fun _ _ e => e)
  obtain ⟨l, d, H1, o, kvs, ys, e, hd, hl, nd, rfl, hz, q⟩ := q
  cases e
  have I4t : ∀ h', Heap.SameBut C s4.heap h' → Inv X pins σ (upd H1 Dl (.lst ys)) { s4 with heap := h' } := fun h' sb => by
    have I5 := (I4 h' sb).thaw (d := d) (o := o) (kvs := kvs) (by rw [upd_ne (Ne.symm nd), upd_same]) hz
    rw [thaw_eq hd nd] at I5
    exact I5
  have fCt : FpOk X pins (upd H1 Dl (.lst ys)) C := by
    refine ⟨?_, fC.2⟩
    have z := fC.1
    have c1 : C ≠ Dl := fun e => by rw [e, upd_same] at z; cases z
    rw [upd_ne c1] at z ⊢
    have c2 : C ≠ d := fun e => by rw [e, upd_same] at z; cases z
    rw [upd_ne c2] at z
    exact z
  show wpAny (model X.prog X.w) X.A (assign (.Name t pos') X.env (.ref Dl)) _ X.xe s4
  obtain ⟨oC, es, ep, hoC, hdC, rC⟩ := id hn
  have I4' : Inv X (pins ++ pinsAt [C] s4.heap) σ (upd H1 Dl (.lst ys)) s4 := (I4t s4.heap (.refl ..)).pinned (fun b hb => by rw [List.mem_singleton.mp hb]; exact fCt) fun b hb => by
    rw [List.mem_singleton.mp hb]
    exact ⟨oC, hoC, fun v z => by rw [hdC] at z; cases z⟩
  refine thn (pg_name hN hi' hx hf _ s4 σ _ (.ref Dl) (.ref Dl) D.nx I4' rfl q) fun _ s5 ⟨σ5, H5, I5, q5⟩ => ?_
  obtain ⟨e5, n5, _⟩ := I5.pin (C, oC) (List.mem_append_right _ (List.mem_append_right _ (mem_pinsAt (List.mem_singleton.mpr rfl) hoC)))
  refine ⟨m, ⟨oC, es, ep, e5, hdC, rC⟩, fun h' sb => ⟨σ5, H5, ?_, q5⟩⟩
  obtain ⟨_, f1, _, f3, f4, f5⟩ := fCt
  exact I5.unpinned.turned (t' := s5.toks) (it := C) (fun b o hb e => (sb.2 b hb).trans e) n5 f1 f3 f4 f5
end
end L2

set_option Elab.async false
set_option linter.all false
set_option maxRecDepth 100000
namespace L2
open PySem PySem.Spec PyProof.Rows L3
/-- a method of a class of the text -/
def DefM (K : PySem.W.Frag) (C : Addr) (m qual : Str) (st : Stmt) (dV : Value) : Prop := ∃ f fd, FunD K m qual st f fd dV ∧ Meth K C m f
def CalM (P : Program) (w : World) (K : PySem.W.Frag) (mg : Str → Option Value) (base : Heap) (CX : CXT) (cm : Bool) (k : Nat) (C : Addr) (m : Str) (ps : List Str) (ds : List V) (sp : Sp) : Prop :=
  ∃ f fd dvs, FnOk P w K mg base CX cm k f fd ps sp ∧ Meth K C m f ∧ Binds K fd ps [] ∧ Vals ds dvs ∧ Binds K fd ps dvs
/-- its __init__ -/
def DefI (K : PySem.W.Frag) (C : Addr) (qual : Str) (st : Stmt) (dV : Value) : Prop := ∃ f fd, FunD K "__init__" qual st f fd dV ∧ Mk K C f
def CalI (P : Program) (w : World) (K : PySem.W.Frag) (mg : Str → Option Value) (base : Heap) (CX : CXT) (cm : Bool) (k : Nat) (C : Addr) (ps : List Str) (ds : List V) (sp : Sp) : Prop :=
  ∃ f fd dvs, FnOk P w K mg base CX cm k f fd ps sp ∧ Mk K C f ∧ Binds K fd ps [] ∧ Vals ds dvs ∧ Binds K fd ps dvs
theorem ix_seqC {X : Cx} {scope : Scope} {cl : List (Str × Addr)} {C : Addr} {s2 : Shared} {H2 : Hp} {fp : List Addr} {N' : List Str} {xe : Value → Shared → Prop} : IxR (X.inC scope cl C s2 H2 fp N' xe) (rIx X.K) := ix_seq (X := X.inC scope cl C s2 H2 fp N' xe)
theorem mono_var (i : Nat) : MonoE (tVar i) := fun σ H Q Q' k h => by
  obtain ⟨v, e, q⟩ := h
  exact ⟨v, e, k _ _ q⟩
theorem mono_fld {K : PySem.W.Frag} {ta : TE} {f : Str} (m : MonoE ta) : MonoE (tFld K ta f) := fun σ H Q Q' k h => by
  refine m σ H _ _ (fun x H1 q => ?_) h
  obtain ⟨a, C, dx, fs, v, e1, e2, e3, e4, e5, q⟩ := q
  exact ⟨a, C, dx, fs, v, e1, e2, e3, e4, e5, k _ _ q⟩
end L2

set_option Elab.async false
set_option linter.all false
set_option maxRecDepth 100000
namespace L2
open PySem PySem.Spec PyProof.Rows L3
section
variable {X : Cx}
/-- a text's slice -/
theorem sl_str : SlR X (fun x lo hi H Q => ∃ z : Str, x = .str z ∧ z.length ≤ sizeLine ∧ Q (.str (Txt.slice z lo hi)) H) := by
  intro pins s σ H x v vl vu lo hi sl Q I rx hs pl pu h
  obtain ⟨z, rfl, hz, q⟩ := h
  obtain ⟨t, rfl⟩ := rx
  have fin : (Txt.slice z lo hi).length ≤ sizeLine ∧ ∀ (t' : Tok) (k : Nat), EP X pins σ Q (.str (Txt.slice z lo hi) t') { s with toks := k } :=
    ⟨Nat.le_trans (Txt.slice_le z lo hi) hz, fun t' k => ⟨.str _, H, I.tok k, ⟨t', rfl⟩, q⟩⟩
  cases pl with
  | none =>
    cases pu with
    | none => exact ⟨"str", _, F.slot_str_getitem.lookup, typeIs_str _ _ _, wpAny_getItem_str_slice (l := none) (u := none) (st := none) hs rfl (post_val_or_str fin)⟩
    | int i t1 => exact ⟨"str", _, F.slot_str_getitem.lookup, typeIs_str _ _ _, wpAny_getItem_str_slice (l := none) (u := some (i, t1)) (st := none) hs rfl (post_val_or_str fin)⟩
  | int j t2 =>
    cases pu with
    | none => exact ⟨"str", _, F.slot_str_getitem.lookup, typeIs_str _ _ _, wpAny_getItem_str_slice (l := some (j, t2)) (u := none) (st := none) hs rfl (post_val_or_str fin)⟩
    | int i t1 => exact ⟨"str", _, F.slot_str_getitem.lookup, typeIs_str _ _ _, wpAny_getItem_str_slice (l := some (j, t2)) (u := some (i, t1)) (st := none) hs rfl (post_val_or_str fin)⟩
end

open Builtin Builtin.Str in
theorem pre_ix (j n : Nat) (h : j ≤ n) : strSliceIndices none (some (j : Int)) 1 n = List.range j := by
  unfold strSliceIndices sliceRange
  simp only [show (1 : Int) > 0 by decide, if_true]
  rw [if_neg (show ¬ ((j : Int) < 0) by omega), show min (j : Int) (n : Int) = j by omega, show max (0 : Int) (j : Int) = j by omega]
  by_cases hj : (0 : Int) < j
  · rw [if_pos hj, show (((j : Int) - 0 + 1 - 1) / 1).toNat = j by omega]
    refine List.map_id'' ?_ _
    intro k
    omega
  · rw [if_neg hj, show j = 0 by omega]
    rfl
theorem pick_len (z : Str) : ∀ l : List Nat, (∀ i ∈ l, i < z.cps.size) → (l.filterMap (z.cps[·]?)).length = l.length
  | [], _ => rfl
  | i :: r, h => by
    have hi := h i List.mem_cons_self
    rw [List.filterMap_cons, Array.getElem?_eq_getElem hi]
    show (_ :: List.filterMap _ r).length = _
    rw [List.length_cons, List.length_cons, pick_len z r fun k hk => h k (List.mem_cons_of_mem _ hk)]
theorem slice_pre_len (z : Str) (j : Nat) (h : j ≤ z.length) : (Txt.slice z none (some (j : Int))).length = j := by
  unfold Txt.slice
  rw [pre_ix j z.length h, List.length_range]
  by_cases e : j = z.length
  · rw [if_pos (by simp [e])]
    exact e.symm
  · rw [if_neg (by simp [e])]
    show (List.filterMap _ (List.range j)).toArray.size = j
    rw [List.size_toArray, pick_len z _ fun i hi => Nat.lt_of_lt_of_le (List.mem_range.mp hi) h, List.length_range]
theorem str_len_app (a b : Str) : (a ++ b).length = a.length + b.length := by
  show (a.cps ++ b.cps).size = _
  rw [Array.size_append]
  rfl
theorem str_app_inj {a b p q : Str} (h : p ++ a ++ q = p ++ b ++ q) : a = b := by
  have e : (p.cps ++ a.cps ++ q.cps) = (p.cps ++ b.cps ++ q.cps) := congrArg Str.cps h
  have e2 := congrArg Array.toList e
  simp only [Array.toList_append] at e2
  have e3 := List.append_cancel_right e2
  have e4 := List.append_cancel_left e3
  cases a
  cases b
  simp only [Str.mk.injEq]
  exact Array.toList_inj.mp e4
end L2

set_option Elab.async false
set_option linter.all false
set_option maxRecDepth 100000
namespace L2
open PySem PySem.Spec PyProof.Rows L3
end L2

set_option Elab.async false
set_option linter.all false
set_option maxRecDepth 100000
namespace L2
open PySem PySem.Spec PyProof.Rows L3
section
variable {X : Cx}
/-- equal one by one: the same plain value, or tuples of the same plain values -/
def eqT (K : PySem.W.Frag) (H : Hp) (x y : V) : Prop := (x = y ∧ eqPl x = true) ∨ ∃ a b xs, x = .ref a ∧ y = .ref b ∧ SqT K H a xs ∧ SqT K H b xs ∧ ∀ z ∈ xs, eqPl z = true
theorem Inv.eqT {pins : List (Addr × Obj)} {σ : St} {H : Hp} {s : Shared} {x y : V} {v u : Value} {A : Around} (I : Inv X pins σ H s) (hu : A.units < cLine) (e : eqT X.K H x y) (rx : RelV x v) (ry : RelV y u) : SeqAt.EqAt A s v u true := by
  rcases e with ⟨rfl, hp⟩ | ⟨a, b, xs, rfl, rfl, ha, hb, hp⟩
  · exact eqAt_self hp rx ry
  · cases rx
    cases ry
    by_cases hab : a = b
    · subst hab
      exact SeqAt.EqAt.same _
    obtain ⟨its, r, pl, hz⟩ := I.tuple ha
    obtain ⟨its2, r2, pl2, hz2⟩ := I.tuple hb
    have l1 := r.length
    have l2 := r2.length
    have h := SeqAt.RcAt.tuples (A := A) (e := fun _ => true) (show s.heap.IsTuple a its.toArray from pl) (show s.heap.IsTuple b its2.toArray from pl2) hu (fun j h1 h2 => by
      simp only [List.size_toArray] at h1 h2
      obtain ⟨x, e, rx⟩ := vals_at r j h1
      obtain ⟨x2, e2, rx2⟩ := vals_at r2 j h2
      rw [e] at e2
      cases e2
      simp only [List.getElem_toArray]
      exact eqAt_self (hp x (List.mem_of_getElem? e)) rx rx2)
    have hb : ((List.range (min its.toArray.size its2.toArray.size)).all (fun _ => true) && its.toArray.size == its2.toArray.size) = true := by
      simp only [List.size_toArray]
      rw [← l1, ← l2]
      simp
    rw [hb] at h
    exact SeqAt.EqAt.of_refs hab h
def EqLs (K : PySem.W.Frag) (H : Hp) (xs ys : List V) : Prop := xs.length = ys.length ∧ ∀ (j : Nat) x y, xs[j]? = some x → ys[j]? = some y → eqT K H x y
theorem EqLs.refl {K : PySem.W.Frag} {H : Hp} {xs : List V} (h : ∀ z ∈ xs, eqPl z = true) : EqLs K H xs xs := ⟨rfl, fun j x y e1 e2 => by
  rw [e1] at e2
  cases e2
  exact .inl ⟨rfl, h x (List.mem_of_getElem? e1)⟩⟩
/-- l.insert(k, y) -/
def rInsert : V → List V → Hp → VK → Prop := fun x vs H Q => ∃ (l : Addr) (xs : List V) (k : Nat) (y : V), x = .ref l ∧ vs = [.int k, y] ∧ H l = some (.lst xs) ∧ k ≤ xs.length ∧ xs.length < 10 ^ 6 ∧ Q .non (upd H l (.lst (xs.take k ++ y :: xs.drop k)))
/-- z.join(list of texts) -/
def rJoin (K : PySem.W.Frag) : V → List V → Hp → VK → Prop := fun x vs H Q => ∃ (z : Str) (p : Addr) (zs : List Str), x = .str z ∧ vs = [.ref p] ∧ SqL K H p (zs.map V.str) ∧ JoinOk z zs = true ∧ Q (.str (Txt.join z zs)) H
/-- d.items(): a view, known by what it is -/
def ivw (v d : Addr) : HO := .ext fun h => h.IsItemsView v d
def rItems : V → List V → Hp → VK → Prop := fun x vs H Q => ∃ (d : Addr) (kvs : List (Key × V)), x = .ref d ∧ vs = [] ∧ H d = some (.dK kvs) ∧ ∀ v, H v = none → Q (.ref v) (upd H v (ivw v d))
/-- the heap with a list of new pairs -/
def hpPairs (H : Hp) (l : Addr) (as : List Addr) (kvs : List (Key × V)) : Hp := fun b => if b = l then some (.lst (as.map V.ref)) else match (as.zip kvs).find? (fun p => decide (p.1 = b)) with
  | some p => some (.tup [kV p.2.1, p.2.2])
  | none => H b
/-- list(d.items()) -/
def rListItems : List V → Hp → VK → Prop := fun xs H Q => ∃ (v d : Addr) (kvs : List (Key × V)), xs = [.ref v] ∧ H v = some (ivw v d) ∧ H d = some (.dK kvs) ∧
  ∀ (l : Addr) (as : List Addr) (H' : Hp), Same H H' → H l = none → H' l = some (.lst (as.map V.ref)) → as.length = kvs.length → (∀ (j : Nat) a kv, as[j]? = some a → kvs[j]? = some kv → H' a = some (.tup [kV kv.1, kv.2])) → Q (.ref l) H'
end
end L2

set_option Elab.async false
set_option linter.all false
set_option maxRecDepth 100000
namespace L2
open PySem PySem.Spec PyProof.Rows L3
/-- [.. for (x, y, ..) in ..]: n names ahead, then the free ones -/
def tLCT (wi : TI) (g : TG) (te : TE) (n : Nat) (js : List Nat) : TE := fun σ H Q => wi σ H fun J H1 => ∃ W : Nat → Nat → List V → Hp → Prop, (∃ m, W 0 m [] H1) ∧ ∀ i m ys H, W i m ys H →
  (J.stop i H ∧ ∀ l, H l = none → Q (.ref l) (upd H l (.lst ys))) ∨ (J.go i H ∧ ys.length < sizeLine ∧ ∃ N : VK, (∀ y H2, N y H2 → ∃ m', m' < m ∧ W (i + 1) m' (ys ++ [y]) H2) ∧ ∀ x H', J.yld i H x H' → ∀ σ0 : St, σ0.length = n → g x (σ0 ++ js.map (fun j => σ.getD j none)) H' fun σ6 H6 => ∃ σ1 : St, σ1.length = n ∧ σ6 = σ1 ++ js.map (fun j => σ.getD j none) ∧ te σ6 H6 N)
section
variable {X : Cx}
structure LcOkT (X : Cx) (xs : List Str) (scope : Scope) (cl : List (Str × Addr)) (js : List Nat) : Prop where
  clos : closureFor scope X.env = pure cl
  sub : ∀ y c, cl.lookup y = some c → X.env.cells.lookup y = some c
  kind : scope.kind = .function
  cell : ∀ y ∈ scope.names, y.2 ≠ .cell
  names : ∀ y ∈ scope.names, y.2 = .local → scope.names.lookup y.1 = some .local
  loc : ∀ x ∈ xs, scope.names.lookup x = some .local
  has : ∀ y, (((relabel scope X.env).names.lookup y = some .cell) ∨ ((relabel scope X.env).names.lookup y = some .free)) → ∃ c, cl.lookup y = some c
  nd : (xs ++ js.map (fun j => X.N.getD j "")).Nodup
  fr : ∀ j ∈ js, ∃ y, X.N[j]? = some y ∧ X.env.kindOf y = some .cell ∧ (relabel scope X.env).names.lookup y = some .cell ∧ ∃ c, cl.lookup y = some c
theorem LcOkT.plain {X : Cx} {xs : List Str} {scope : Scope} (hfree : ∀ y ∈ scope.names, y.2 ≠ .free) (hcell : ∀ y ∈ scope.names, y.2 ≠ .cell) (hkind : scope.kind = .function) (hnames : ∀ y ∈ scope.names, y.2 = .local → scope.names.lookup y.1 = some .local)
    (hloc : ∀ x ∈ xs, scope.names.lookup x = some .local) (hnd : xs.Nodup) : LcOkT X xs scope [] [] where
  clos := closureFor_none hfree
  sub := fun _ _ e => nomatch e
  kind := hkind
  cell := hcell
  names := hnames
  loc := hloc
  has := fun y h => by
    rcases h with h | h
    · exact (lookup_relabel_not hfree hcell h).elim
    · exact (lookup_relabel_not hfree hfree h).elim
  nd := by simpa using hnd
  fr := fun _ h => nomatch h
end
end L2

set_option Elab.async false
set_option linter.all false
set_option maxRecDepth 100000
namespace L2
open PySem PySem.Spec PyProof.Rows PySem.W PySem.Calls L3
end L2

set_option Elab.async false
set_option linter.all false
set_option maxRecDepth 100000
namespace L2
open PySem PySem.Spec PyProof.Rows L3
end L2

set_option Elab.async false
set_option linter.all false
set_option maxRecDepth 100000
namespace PySem.W
open PySem PySem.Calls PyProof.Rows PyProof.V PySem.Spec
section
variable {prog : Program} {w : World} {A : Around} {E : Value → Shared → Prop}
variable {K : Type} [DecidableEq K] {knd : KeyKind prog w K}
/-- a pair: where it lies, its key by value and as it stands, its value -/
structure PairAt (knd : KeyKind prog w K) (h : Heap) (v : Value) (k : K) (x : Value) : Prop where
  is : ∃ a key, v = .ref a ∧ knd.is k key = true ∧ IsTup h a #[key, x]
/-- the pairs one by one -/
def storedAll (kvs : List (K × Value)) (ps : List (K × Value)) : List (K × Value) := ps.foldl (fun acc p => stored acc p.1 p.2) kvs
end
end PySem.W
namespace L2
open PySem PySem.Spec PyProof.Rows L3
section
variable {X : Cx}
/-- dict(a list of pairs) -/
def putAll (kvs : List (Key × V)) (ps : List (Key × V)) : List (Key × V) := ps.foldl (fun acc p => putK acc p.1 p.2) kvs
theorem KV.putAll : ∀ {ps : List (Key × V)} {qs : List (Key × Value)} {kvs : List (Key × V)} {vs : List (Key × Value)}, KV ps qs → KV kvs vs → KV (putAll kvs ps) (PySem.W.storedAll vs qs) := by
  intro ps qs kvs vs r
  unfold KV at r
  induction r generalizing kvs vs with
  | nil => intro q; exact q
  | @cons p q ps qs h t ih =>
    intro r0
    have e : KV (putK kvs p.1 p.2) (stored vs q.1 q.2) := by
      have := r0.put p.1 h.2
      rw [← h.1]
      exact this
    exact ih e
def rDictPairs (K : PySem.W.Frag) : List V → Hp → VK → Prop := fun xs H Q => ∃ (l : Addr) (L : List (Addr × Key × V)), xs = [.ref l] ∧ H l = some (.lst (L.map fun z => .ref z.1)) ∧ L.length ≤ 10 ^ 6 ∧ (∀ z ∈ L, H z.1 = some (.tup [kV z.2.1, z.2.2])) ∧
  ∀ d, H d = none → Q (.ref d) (upd H d (.dK (putAll [] (L.map (·.2)))))
/-- list(d): its keys -/
def rListD : List V → Hp → VK → Prop := fun xs H Q => ∃ (d : Addr) (kvs : List (Key × V)), xs = [.ref d] ∧ H d = some (.dK kvs) ∧ ∀ l, H l = none → Q (.ref l) (upd H l (.lst (kvs.map fun kv => kV kv.1)))
end
end L2

set_option Elab.async false
set_option linter.all false
set_option maxRecDepth 100000
namespace PySem.W
open PySem PySem.Calls PyProof.Rows PyProof.V PySem.Spec
section
variable {prog : Program} {w : World} {A : Around} {E : Value → Shared → Prop} {s : Shared} {r l : Addr} {items : Array Value}
end
end PySem.W
namespace L2
open PySem PySem.Spec PyProof.Rows L3
section
variable {X : Cx}
def tRevL (K : PySem.W.Frag) (te : TE) : TE := fun σ H Q => te σ H fun x H1 => ∃ l ys, [x] = [V.ref l] ∧ SqL K H1 l ys ∧ ∀ p, H1 p = none → Q (.ref p) (upd H1 p (.lst ys.reverse))
end
end L2

set_option Elab.async false
set_option linter.all false
set_option maxRecDepth 100000
namespace L2
open PySem PySem.Spec PyProof.Rows L3
/-- the __init__ of an exception's own -/
def DefX (K : PySem.W.Frag) (C : Addr) (qual : Str) (st : Stmt) : Prop := ∃ f fd, FunD K "__init__" qual st f fd .none ∧ PySem.W.findIn K (.ref C) "__init__" = some (some (.ref f)) ∧ PySem.W.isFn K (.ref f) = true
def CalX (P : Program) (w : World) (K : PySem.W.Frag) (mg : Str → Option Value) (base : Heap) (cm : Bool) (k : Nat) (C : Addr) (ps : List Str) (sp : Sp) : Prop :=
  ∃ f fd, PySem.W.findIn K (.ref C) "__init__" = some (some (.ref f)) ∧ PySem.W.isFn K (.ref f) = true ∧ FnOk P w K mg base CX0 cm k f fd ps sp ∧ Binds K fd ps []
section
variable {X : Cx}
/-- nothing, or tuples of the same plain values -/
def EqO (K : PySem.W.Frag) (H : Hp) (x y : V) : Prop := (x = .non ∧ y = .non) ∨ ∃ a b xs, x = .ref a ∧ y = .ref b ∧ SqT K H a xs ∧ SqT K H b xs ∧ ∀ z ∈ xs, eqPl z = true
theorem op_eqO {cm : Bool} {k : Nat} (hr : Room cm k X.A) : OpR X (compareOp .Eq) (fun x y H Q => EqO X.K H x y ∧ Q (.bl true) H) := by
  intro pins s σ H x y v u Q I rx ry ⟨h, q⟩
  rcases h with ⟨rfl, rfl⟩ | ⟨a, b, xs, rfl, rfl, ha, hb, hp⟩
  · exact op_eq pins s σ H .non .non v u Q I rx ry ⟨rfl, by rw [show decide ((V.non) = V.non) = true from rfl]; exact q⟩
  · cases rx
    cases ry
    obtain ⟨its, r, pl, hz⟩ := I.tuple ha
    obtain ⟨its2, r2, pl2, hz2⟩ := I.tuple hb
    have l1 := r.length
    have l2 := r2.length
    have hu : X.A.units < cLine := by have := hr.un; omega
    refine SeqAt.eq_tupleAt (e := fun _ => true) (show s.heap.IsTuple a its.toArray from pl) (show s.heap.IsTuple b its2.toArray from pl2) hu (fun j h1 h2 => ?_) ?_
    · simp only [List.size_toArray] at h1 h2
      obtain ⟨x, e, rx⟩ := vals_at r j h1
      obtain ⟨x2, e2, rx2⟩ := vals_at r2 j h2
      rw [e] at e2
      cases e2
      simp only [List.getElem_toArray]
      exact eqAt_self (hp x (List.mem_of_getElem? e)) rx rx2
    · have hb : ((List.range (min its.toArray.size its2.toArray.size)).all (fun _ => true) && its.toArray.size == its2.toArray.size) = true := by
        simp only [List.size_toArray]
        rw [← l1, ← l2]
        simp
      rw [hb]
      exact ⟨.bl true, H, I, rfl, q⟩
end
end L2

namespace Z
def numZ (c : Int) : Int := if c % 3 = 0 then c / 3 % 13 - 6 else if c % 3 = 1 then c / 3 % 2000003 - 1000001 else (c / 3 % 1000003 - 500001) ^ 11
def botZ (c : Int) : Int := if c % 3 = 0 then 1 + c / 3 % 12 else if c % 3 = 1 then 1 + c / 3 % 10 ^ 9 else 1 + (c / 3 % 1000003) ^ 5
theorem pow_le {x : Int} (k n : Nat) (h : x.natAbs ≤ n) : (x ^ k).natAbs ≤ n ^ k := by
  rw [Int.natAbs_pow]
  exact Nat.pow_le_pow_left h k
theorem num_in (c : Int) : -(2 ^ 210) ≤ numZ c ∧ numZ c ≤ 2 ^ 210 := by
  unfold numZ
  split
  · omega
  · split
    · omega
    · have p := pow_le 11 500001 (show (c / 3 % 1000003 - 500001).natAbs ≤ 500001 by omega)
      generalize (c / 3 % 1000003 - 500001) ^ 11 = z at p ⊢
      have e : (500001 : Nat) ^ 11 ≤ 2 ^ 210 := by decide
      omega
end Z

namespace N11
def gF (a b : Int) : Int := (Int.gcd a b : Nat)
theorem g_abs (a b : Int) : Int.gcd (a.natAbs : Int) (b.natAbs : Int) = Int.gcd a b := rfl
theorem g_turn {a b : Int} (ha : 0 ≤ a) (hb : 0 < b) : Int.gcd b (a.fmod b) = Int.gcd a b := by
  rw [Int.fmod_eq_emod_of_nonneg a (Int.le_of_lt hb)]
  obtain ⟨m, rfl⟩ := Int.eq_ofNat_of_zero_le ha
  obtain ⟨n, rfl⟩ := Int.eq_ofNat_of_zero_le (Int.le_of_lt hb)
  show Nat.gcd n (((m : Int) % (n : Int)).natAbs) = Nat.gcd m n
  rw [← Int.natCast_emod, Int.natAbs_natCast, Nat.gcd_comm n, ← Nat.gcd_rec, Nat.gcd_comm]
theorem g_out {a : Int} (ha : 0 ≤ a) : (Int.gcd a 0 : Int) = a := by
  rw [Int.gcd_zero_right]
  omega
theorem fm_lt {a b : Int} (hb : 0 < b) : 0 ≤ a.fmod b ∧ a.fmod b < b := ⟨Int.fmod_nonneg_of_pos a hb, Int.fmod_lt_of_pos a hb⟩
end N11
namespace N11
theorem pow_le {x : Int} (k n : Nat) (h : x.natAbs ≤ n) : (x ^ k).natAbs ≤ n ^ k := by
  rw [Int.natAbs_pow]
  exact Nat.pow_le_pow_left h k
def numF (c : Int) : Int :=
  if Int.fmod c 3 = 0 then Int.fmod (Int.fdiv c 3) 13 - 6
  else if Int.fmod c 3 = 1 then Int.fmod (Int.fdiv c 3) 2000003 - 1000001
  else (Int.fmod (Int.fdiv c 3) 1000003 - 500001) ^ 11
theorem fm (c : Int) {m : Int} (h : 0 < m) : 0 ≤ Int.fmod c m ∧ Int.fmod c m < m := ⟨Int.fmod_nonneg_of_pos c h, Int.fmod_lt_of_pos c h⟩
theorem num_in (c : Int) : -(2 ^ 210) ≤ numF c ∧ numF c ≤ 2 ^ 210 := by
  unfold numF
  split
  · have := fm (Int.fdiv c 3) (m := 13) (by decide); omega
  · split
    · have := fm (Int.fdiv c 3) (m := 2000003) (by decide); omega
    · have h := fm (Int.fdiv c 3) (m := 1000003) (by decide)
      have p := pow_le 11 500001 (show (Int.fmod (Int.fdiv c 3) 1000003 - 500001).natAbs ≤ 500001 by omega)
      generalize (Int.fmod (Int.fdiv c 3) 1000003 - 500001) ^ 11 = z at p ⊢
      have e : (500001 : Nat) ^ 11 ≤ 2 ^ 210 := by decide
      omega
/-- between two turns of the loop -/
structure GI (o p a b : Int) : Prop where
  is : gF a b = gF o p
theorem start {a b : Int} (ha : 0 ≤ a) (hb : 0 ≤ b) : 0 ≤ a ∧ 0 ≤ b ∧ GI a b a b := ⟨ha, hb, ⟨rfl⟩⟩
theorem turn {o p a b : Int} (h : GI o p a b) (ha : 0 ≤ a) (hb : 0 < b) : 0 ≤ b ∧ 0 ≤ Int.fmod a b ∧ GI o p b (Int.fmod a b) := by
  refine ⟨by omega, (fm_lt hb).1, ⟨?_⟩⟩
  rw [← h.is]
  unfold gF
  rw [g_turn ha hb]
theorem out {t b a c : Int} (h : GI (t.natAbs : Int) (b.natAbs : Int) a c) (ha : 0 ≤ a) (hc : c = 0) : a = gF t b := by
  have e := h.is
  subst hc
  unfold gF at e ⊢
  rw [g_out ha, g_abs] at e
  exact e
theorem g_told (t b : Int) : 0 ≤ gF t b ∧ (b = 0 ∨ (0 < gF t b ∧ gF t b ≤ (b.natAbs : Int))) := by
  refine ⟨by unfold gF; omega, ?_⟩
  by_cases c : b = 0
  · exact .inl c
  · have g0 : 0 < Int.gcd t b := Int.gcd_pos_of_ne_zero_right t c
    have d := Nat.le_of_dvd (show 0 < b.natAbs by omega) (Int.gcd_dvd_natAbs_right t b)
    exact .inr ⟨by unfold gF; omega, by unfold gF; omega⟩
end N11
namespace N11
theorem g_turnE {a b : Int} (ha : 0 ≤ a) (hb : 0 < b) : gF b (a % b) = gF a b := by
  have h := g_turn ha hb
  rw [Int.fmod_eq_emod_of_nonneg a (Int.le_of_lt hb)] at h
  unfold gF
  rw [h]
theorem g_start (a b : Int) : gF ((a.natAbs : Nat) : Int) ((b.natAbs : Nat) : Int) = gF a b := by
  unfold gF
  rw [g_abs]
theorem g_end {a b x : Int} (h : gF x 0 = gF a b) (hx : 0 ≤ x) : x = gF a b := by
  rw [← h]
  unfold gF
  rw [g_out hx]
/-- what is shared, with the bottom's sign -/
def dF (t b : Int) : Int := if b < 0 then -(gF t b) else gF t b
theorem dF_in {t b : Int} (hb : b ≠ 0) : dF t b ≠ 0 ∧ (dF t b).natAbs ≤ b.natAbs := by
  have h := g_told t b
  unfold dF
  split <;> omega
end N11

namespace K16
open PySem L2 L3
def top (i : Nat) : Stmt := PySem.Challenge.pw_groupbooks_k16_rates_by_day.main.body.getD i (.Pass ⟨0, 0, 0, 0⟩)
abbrev s__wall : Stmt := top 0
abbrev s_divisor : Stmt := top 22
abbrev s_fraction : Stmt := top 23
abbrev s__law_cell : Stmt := top 27
abbrev s__law_whole : Stmt := top 28
abbrev s__law_divisor : Stmt := top 29
abbrev s__law_names : Stmt := top 30
abbrev s__law_top : Stmt := top 31
abbrev s__law_other : Stmt := top 32
abbrev s__law_named : Stmt := top 33
abbrev s__law_due : Stmt := top 34
abbrev s__law_asked : Stmt := top 35
abbrev s__law_answer : Stmt := top 36
abbrev s__law_told : Stmt := top 37
abbrev s__law_row : Stmt := top 38
abbrev s__law_all_asked : Stmt := top 39
abbrev s_law : Stmt := top 40
section
variable {P : Program} {w : World} {K : PySem.W.Frag} {mg : Str → Option Value} {base : Heap} {cm : Bool}
def spCell (K : PySem.W.Frag) : Sp := fun vs H Q _ => ∃ (a : Addr) (ns : List Int) (k : Nat), vs = [.ref a, .int k] ∧ SqL K H a (ns.map V.int) ∧ Q (.int (ns.getD k 0)) H
def spWhole : Sp := fun vs H Q _ => ∃ i : Int, vs = [.int i] ∧ Q (.bl true) H
def spG : Sp := fun vs H Q _ => ∃ a b : Int, vs = [.int a, .int b] ∧ Q (.int (N11.gF a b)) H
def spFrac (C : Addr) : Sp := fun vs H Q E => ∃ t b : Int, vs = [.int t, .int b] ∧ (b = 0 → E (.ref C) none H) ∧ (b ≠ 0 → b.natAbs ≤ 2 ^ 250 * 2 ^ 250 * 2 ^ 250 * 2 ^ 250 ∧ ∀ p, H p = none → Q (.ref p) (upd H p (.tup [.int (Int.fdiv t (N11.dF t b)), .int (Int.fdiv b (N11.dF t b))])))
def spLaw (K : PySem.W.Frag) : Sp := fun vs H Q _ => ∃ (a : Addr) (ns : List Int), vs = [.ref a] ∧ SqL K H a (ns.map V.int) ∧ ns.length ≤ 63 ∧ ∀ H', Q (.bl true) H'
theorem same_upd {H : Hp} {p : Addr} {o : HO} (h : H p = none) : Same H (upd H p o) := fun b o' hb => by
  rw [upd_ne (ne_of_none hb h)]
  exact hb
theorem same_set {H0 H : Hp} {p : Addr} {o : HO} (e : Same H0 H) (h : H0 p = none) : Same H0 (upd H p o) := fun b o' hb => by
  rw [upd_ne (ne_of_none hb h)]
  exact e _ _ hb
theorem cut_ints (ws : List Int) (lo hi : Option Int) : ∃ us : List Int, cutV (ws.map V.int) lo hi = us.map V.int ∧ us.length ≤ ws.length ∧ ∀ w ∈ us, w ∈ ws := by
  refine ⟨(ws.drop (HT.sIx ws.length 0 lo)).take (HT.sIx ws.length ws.length hi - HT.sIx ws.length 0 lo), ?_, ?_, fun w hw => List.mem_of_mem_drop (List.mem_of_mem_take hw)⟩
  · unfold cutV
    rw [List.length_map, ← List.map_drop, ← List.map_take]
  · rw [List.length_take, List.length_drop]
    omega
theorem ne_of_none_r {H : Hp} {a b : Addr} {o : HO} (h : H a = some o) (h' : H b = none) : b ≠ a := fun z => by rw [z, h] at h'; cases h'
def fK (c : Str) (dy : Int) : List Key → Bool
  | [.inr c', .inl d'] => decide (V.str c' = V.str c) && decide (d' ≤ dy)
  | _ => false
def gI : List Key → Int
  | [_, .inl d'] => d'
  | _ => 0
/-- rates told: the instance, its told coin, its dict -/
structure RatesAt (K : PySem.W.Frag) (C : Addr) (H : Hp) (p d : Addr) (t : Str) (kvs : List (List Key × V)) : Prop where
  ob : ∃ dx fs, H p = some (.ins C dx fs) ∧ fs.lookup ("told" : Str) = some (.str t) ∧ fs.lookup ("known" : Str) = some (.ref d) ∧ ∀ m ∈ (["tell", "rate", "worth", "copied"] : List Str), fs.lookup m = none
  dc : H d = some (.dT kvs)
  ln : kvs.length ≤ 500
  ks : ∀ k ∈ kvs.map (·.1), ∃ c' d', k = [Sum.inr c', Sum.inl d']
def daysOf (c : Str) (dy : Int) (kvs : List (List Key × V)) : List Int := ((kvs.map (·.1)).filter (fK c dy)).map gI

def f2 (c r : V) : List (Str × V) := putF "day" r (putF "coin" c [])
theorem f2_coin (c r : V) : (f2 c r).lookup ("coin" : Str) = some c := by
  unfold f2
  rw [lookup_putF, if_neg (by decide +kernel), lookup_putF, if_pos rfl]
theorem f2_day (c r : V) : (f2 c r).lookup ("day" : Str) = some r := by
  unfold f2
  rw [lookup_putF, if_pos rfl]
def spXI (C : Addr) : Sp := fun vs H Q _ => ∃ (x : Addr) (c r : V), vs = [.ref x, c, r] ∧ H x = some (bareO x (.ref C) none) ∧ ∀ d H', H d = none → d ≠ x → H' d = some (.xd (f2 c r)) → H' x = some (bareO x (.ref C) (some d)) → (∀ y o, H y = some o → y ≠ x → H' y = some o) → Q .non H'
theorem after_x {H H' : Hp} {x : Addr} {o : HO} (hx0 : H x = none) (keep : ∀ y o', upd H x o y = some o' → y ≠ x → H' y = some o') : Same H (fun b => if b = x then none else H' b) := fun b o' hb => by
  have n := ne_of_none hb hx0
  show (if b = x then none else H' b) = some o'
  rw [if_neg n]
  exact keep b o' (by rw [upd_ne n]; exact hb) n
def spG0 : Sp := fun vs H Q _ => ∃ a b : Int, vs = [.int a, .int b] ∧ 0 ≤ a ∧ 0 ≤ b ∧ Q (.int (N11.gF a b)) H
theorem join1 {α : Type} {G : Prop} (F P : α → Prop) (hm : (∀ x, F x → P x) → G) (hr : ∀ x, F x → P x) : G := hm hr
theorem tk_ne : ¬ (("told" : Str) = "known") := by decide +kernel
theorem pl2 {a b : Int} : ∀ z ∈ [V.int a, V.int b], eqPl z = true := by
  intro z hz
  simp only [List.mem_cons, List.not_mem_nil, or_false] at hz
  rcases hz with rfl | rfl <;> rfl
abbrev Wd := Addr × Str × Int × Int × Int × Addr
def keyW (z : Wd) : List Key := [Sum.inr z.2.1, Sum.inl z.2.2.1]
def kvW (W : List Wd) : List (List Key × V) := W.map fun z => (keyW z, .ref z.2.2.2.2.2)
def rfW (W : List Wd) : List V := W.map fun z => .ref z.1
def WdL (H : Hp) (W : List Wd) : Prop := ∀ z ∈ W, H z.1 = some (.tup [.str z.2.1, .int z.2.2.1, .int z.2.2.2.1, .int z.2.2.2.2.1]) ∧ H z.2.2.2.2.2 = some (.tup [.int z.2.2.2.1, .int z.2.2.2.2.1])
theorem WdL.same {H H' : Hp} {W : List Wd} (h : WdL H W) (e : Same H H') : WdL H' W := fun z hz => ⟨e _ _ (h z hz).1, e _ _ (h z hz).2⟩
theorem rfW_len (W : List Wd) : (rfW W).length = W.length := List.length_map ..
theorem rfW_at {W : List Wd} {i : Nat} {x : V} (h : (rfW W)[i]? = some x) : ∃ z, W[i]? = some z ∧ x = .ref z.1 := by
  unfold rfW at h
  rw [List.getElem?_map] at h
  cases e : W[i]? with
  | none => rw [e] at h; cases h
  | some z => rw [e] at h; exact ⟨z, rfl, (Option.some.inj h).symm⟩
theorem takeNx {α : Type} {W : List α} {i : Nat} {z : α} (h : W[i]? = some z) : W.take (i + 1) = W.take i ++ [z] := by
  rw [List.take_succ, h]
  rfl
def bst (c : Str) (dy : Int) (b : Option Wd) (z : Wd) : Option Wd := if z.2.1 = c ∧ (b.map (·.2.2.1)).getD (-1) < z.2.2.1 ∧ z.2.2.1 ≤ dy then some z else b
def best (c : Str) (dy : Int) (W : List Wd) : Option Wd := W.foldl (bst c dy) none
theorem best_nx {c : Str} {dy : Int} {W : List Wd} {i : Nat} {z : Wd} (h : W[i]? = some z) : best c dy (W.take (i + 1)) = bst c dy (best c dy (W.take i)) z := by
  unfold best
  rw [takeNx h, List.foldl_append]
  rfl
theorem best_app (c : Str) (dy : Int) (W : List Wd) (z : Wd) : best c dy (W ++ [z]) = bst c dy (best c dy W) z := by
  unfold best
  rw [List.foldl_append]
  rfl
theorem kv_app (W : List Wd) (z : Wd) : kvW (W ++ [z]) = kvW W ++ [(keyW z, .ref z.2.2.2.2.2)] := List.map_append ..
theorem fK_key (c : Str) (dy : Int) (z : Wd) : fK c dy (keyW z) = (decide (z.2.1 = c) && decide (z.2.2.1 ≤ dy)) := by
  show (decide (V.str z.2.1 = V.str c) && _) = _
  congr 1
  by_cases h : z.2.1 = c
  · rw [decide_eq_true h, decide_eq_true (congrArg V.str h)]
  · rw [decide_eq_false h, decide_eq_false (fun e => h (V.str.inj e))]
theorem days_app (c : Str) (dy : Int) (W : List Wd) (z : Wd) : daysOf c dy (kvW (W ++ [z])) = daysOf c dy (kvW W) ++ (if z.2.1 = c ∧ z.2.2.1 ≤ dy then [z.2.2.1] else []) := by
  unfold daysOf
  rw [kv_app, List.map_append, List.filter_append, List.map_append]
  congr 1
  show List.map gI (List.filter (fK c dy) [keyW z]) = _
  rw [List.filter_cons, fK_key, List.filter_nil]
  by_cases h : z.2.1 = c ∧ z.2.2.1 ≤ dy
  · rw [if_pos h, decide_eq_true h.1, decide_eq_true h.2]
    rfl
  · rw [if_neg h, if_neg]
    · rfl
    · intro e
      rw [Bool.and_eq_true, decide_eq_true_eq, decide_eq_true_eq] at e
      exact h e
theorem val_app (A : List (List Key × V)) (k k' : List Key) (v : V) : valV (A ++ [(k, v)]) k' = (valV A k').or (if k = k' then some v else none) := by
  unfold valV
  rw [List.find?_append]
  cases A.find? (fun kv => decide (kv.1 = k')) with
  | some a => rfl
  | none =>
    by_cases h : k = k'
    · rw [if_pos h]
      simp [List.find?_cons, h]
    · rw [if_neg h]
      simp [List.find?_cons, h]
theorem val_day {c : Str} {dy m : Int} {W : List Wd} (h : valV (kvW W) [Sum.inr c, Sum.inl m] ≠ none) (hm : m ≤ dy) : m ∈ daysOf c dy (kvW W) := by
  unfold valV at h
  cases hf : (kvW W).find? (fun kv => decide (kv.1 = [Sum.inr c, Sum.inl m])) with
  | none => rw [hf] at h; exact absurd rfl h
  | some kv =>
    have h1 := List.find?_some hf
    have h2 := List.mem_of_find?_eq_some hf
    obtain ⟨z, hz, rfl⟩ := List.mem_map.mp h2
    have h3 : keyW z = [Sum.inr c, Sum.inl m] := by simpa using h1
    have h4 : z.2.1 = c ∧ z.2.2.1 = m := by
      unfold keyW at h3
      simpa using h3
    unfold daysOf
    refine List.mem_map.mpr ⟨keyW z, List.mem_filter.mpr ⟨List.mem_map.mpr ⟨_, h2, rfl⟩, ?_⟩, ?_⟩
    · rw [fK_key, decide_eq_true h4.1, decide_eq_true (by omega)]
      rfl
    · exact h4.2
theorem snoc_ind {α : Type} {P : List α → Prop} (h0 : P []) (h1 : ∀ l a, P l → P (l ++ [a])) : ∀ l, P l := by
  intro l
  rw [← List.reverse_reverse l]
  induction l.reverse with
  | nil => exact h0
  | cons a r ih =>
    rw [List.reverse_cons]
    exact h1 _ _ ih
theorem best_spec (c : Str) (dy : Int) : ∀ (W : List Wd), (∀ z ∈ W, 0 ≤ z.2.2.1) →
    (best c dy W = none → daysOf c dy (kvW W) = []) ∧ (∀ z, best c dy W = some z → z ∈ W ∧ z.2.2.1 ∈ daysOf c dy (kvW W) ∧ (∀ a ∈ daysOf c dy (kvW W), a ≤ z.2.2.1) ∧ valV (kvW W) [Sum.inr c, Sum.inl z.2.2.1] = some (.ref z.2.2.2.2.2)) := by
  intro W
  induction W using snoc_ind with
  | h0 => exact fun _ => ⟨fun _ => rfl, fun z h => nomatch h⟩
  | h1 W y ih =>
    intro h0
    obtain ⟨i1, i2⟩ := ih fun z hz => h0 z (List.mem_append_left _ hz)
    have hy := h0 y (List.mem_append_right _ (List.mem_singleton.mpr rfl))
    rw [best_app, days_app, kv_app]
    unfold bst
    by_cases hc : y.2.1 = c ∧ ((best c dy W).map (·.2.2.1)).getD (-1) < y.2.2.1 ∧ y.2.2.1 ≤ dy
    · rw [if_pos hc, if_pos ⟨hc.1, hc.2.2⟩]
      have lt : ∀ a ∈ daysOf c dy (kvW W), a < y.2.2.1 := fun a ha => by
        cases hb : best c dy W with
        | none => rw [i1 hb] at ha; cases ha
        | some z =>
          have := (i2 z hb).2.2.1 a ha
          have h2 := hc.2.1
          rw [hb] at h2
          have h3 : z.2.2.1 < y.2.2.1 := h2
          omega
      refine ⟨fun h => (nomatch h), fun z hz => ?_⟩
      cases hz
      refine ⟨List.mem_append_right _ (List.mem_singleton.mpr rfl), List.mem_append_right _ (List.mem_singleton.mpr rfl), fun a ha => ?_, ?_⟩
      · rcases List.mem_append.mp ha with m | m
        · have := lt a m
          omega
        · rw [List.mem_singleton.mp m]
          exact Int.le_refl _
      · rw [val_app, if_pos (by unfold keyW; rw [hc.1])]
        cases hv : valV (kvW W) [Sum.inr c, Sum.inl y.2.2.1] with
        | none => rfl
        | some v =>
          have := lt _ (val_day (c := c) (dy := dy) (W := W) (m := y.2.2.1) (by rw [hv]; intro z; cases z) hc.2.2)
          omega
    · rw [if_neg hc]
      refine ⟨fun hb => ?_, fun z hz => ?_⟩
      · rw [i1 hb, if_neg]
        · rfl
        · intro e
          rw [hb] at hc
          exact hc ⟨e.1, (by show (-1 : Int) < y.2.2.1; omega), e.2⟩
      · obtain ⟨j1, j2, j3, j4⟩ := i2 z hz
        refine ⟨List.mem_append_left _ j1, List.mem_append_left _ j2, fun a ha => ?_, ?_⟩
        · rcases List.mem_append.mp ha with m | m
          · exact j3 a m
          · split at m
            · rename_i e
              rw [List.mem_singleton.mp m]
              rw [hz] at hc
              have : ¬ (z.2.2.1 < y.2.2.1) := fun w => hc ⟨e.1, w, e.2⟩
              omega
            · cases m
        · rw [val_app, j4]
          rfl
def tws (c t : Str) (dy : Int) (W : List Wd) : Bool := decide (V.str c = V.str t) || W.any fun z => decide (V.str z.2.1 = V.str c) && decide (V.int z.2.2.1 = V.int dy)
theorem tws_nx {c t : Str} {dy : Int} {W : List Wd} {i : Nat} {z : Wd} (h : W[i]? = some z) : tws c t dy (W.take (i + 1)) = (tws c t dy (W.take i) || (decide (V.str z.2.1 = V.str c) && decide (V.int z.2.2.1 = V.int dy))) := by
  unfold tws
  rw [takeNx h, List.any_append, Bool.or_assoc]
  simp
theorem val_any (c : Str) (dy : Int) (W : List Wd) : (valV (kvW W) [Sum.inr c, Sum.inl dy]).isSome = W.any fun z => decide (V.str z.2.1 = V.str c) && decide (V.int z.2.2.1 = V.int dy) := by
  induction W using snoc_ind with
  | h0 => rfl
  | h1 W y ih =>
    rw [kv_app, val_app, List.any_append, ← ih]
    cases valV (kvW W) [Sum.inr c, Sum.inl dy] with
    | some v => simp
    | none =>
      by_cases h : keyW y = [Sum.inr c, Sum.inl dy]
      · rw [if_pos h]
        have h4 : y.2.1 = c ∧ y.2.2.1 = dy := by
          unfold keyW at h
          simpa using h
        simp [h4.1, h4.2]
      · rw [if_neg h]
        have h4 : ¬ (y.2.1 = c ∧ y.2.2.1 = dy) := fun e => h (by unfold keyW; rw [e.1, e.2])
        simp
        intro e1 e2
        exact h4 ⟨e1, e2⟩
theorem tws_false {c t : Str} {dy : Int} {W : List Wd} (h : tws c t dy W = false) : c ≠ t ∧ valV (kvW W) [Sum.inr c, Sum.inl dy] = none := by
  unfold tws at h
  rw [Bool.or_eq_false_iff] at h
  refine ⟨fun e => ?_, ?_⟩
  · have := of_decide_eq_false h.1
    exact this (congrArg V.str e)
  · have := val_any c dy W
    rw [h.2] at this
    cases hv : valV (kvW W) [Sum.inr c, Sum.inl dy] with
    | none => rfl
    | some v => rw [hv] at this; cases this
theorem tws_true {c t : Str} {dy : Int} {W : List Wd} (h : tws c t dy W = true) : c = t ∨ valV (kvW W) [Sum.inr c, Sum.inl dy] ≠ none := by
  unfold tws at h
  rw [Bool.or_eq_true] at h
  rcases h with h | h
  · exact .inl (V.str.inj (of_decide_eq_true h))
  · refine .inr fun e => ?_
    have := val_any c dy W
    rw [h, e] at this
    cases this
def bV : Option Int → V
  | none => .non
  | some b => .int b
def Bad (tp : Int) (ob : Option Int) : Prop := tp < 1 ∨ ob.getD 1 < 1
def spRateE (K : PySem.W.Frag) (C CN : Addr) : Sp := fun vs H Q E => ∃ (p d : Addr) (t c : Str) (dy : Int) (kvs : List (List Key × V)), vs = [.ref p, .str c, .int dy] ∧ RatesAt K C H p d t kvs ∧ (c = t → ∀ r H', Same H H' → H' r = some (.tup [.int 1, .int 1]) → Q (.ref r) H') ∧
  (c ≠ t → daysOf c dy kvs = [] → ∀ e H', Same H H' → H' e = some (.xd (f2 (.str c) (.int dy))) → E (.ref CN) (some e) H') ∧
  (c ≠ t → daysOf c dy kvs ≠ [] → ∀ m, m ∈ daysOf c dy kvs → (∀ a ∈ daysOf c dy kvs, a ≤ m) → ∃ v, valV kvs [Sum.inr c, Sum.inl m] = some v ∧ ∀ H', Same H H' → Q v H')
def spInit (K : PySem.W.Frag) (C : Addr) : Sp := fun vs H Q _ => ∃ (p dx : Addr) (t : Str), vs = [.ref p, .str t] ∧ H p = some (.ins C dx []) ∧ ∀ d H', H d = none → RatesAt K C H' p d t [] → (∀ b o, H b = some o → b ≠ p → H' b = some o) → Q .non H'
def TellQ (K : PySem.W.Frag) (C CN CT : Addr) (H : Hp) (Q : VK) (E : XK) (p d : Addr) (t c : Str) (dy tp bt : Int) (kvs : List (List Key × V)) : Prop :=
  ((tp < 1 ∨ bt < 1) → E (.ref CN) none H) ∧ (1 ≤ tp → 1 ≤ bt → (c = t ∨ valV kvs [Sum.inr c, Sum.inl dy] ≠ none) → ∀ e H', Same H H' → H' e = some (.xd (f2 (.str c) (.int dy))) → E (.ref CT) (some e) H') ∧
  (1 ≤ tp → 1 ≤ bt → c ≠ t → valV kvs [Sum.inr c, Sum.inl dy] = none → ∀ r H', H' r = some (.tup [.int (Int.fdiv tp (N11.dF tp bt)), .int (Int.fdiv bt (N11.dF tp bt))]) → RatesAt K C H' p d t (kvs ++ [([Sum.inr c, Sum.inl dy], .ref r)]) → (∀ b o, H b = some o → b ≠ d → H' b = some o) → Q .non H')
def spTellE (K : PySem.W.Frag) (C CN CT : Addr) : Sp := fun vs H Q E => ∃ (p d : Addr) (t c : Str) (dy tp bt : Int) (kvs : List (List Key × V)), vs = [.ref p, .str c, .int dy, .int tp, .int bt] ∧ RatesAt K C H p d t kvs ∧ bt ≤ 2 ^ 200 ∧ kvs.length < 500 ∧ TellQ K C CN CT H Q E p d t c dy tp bt kvs
def spAns (K : PySem.W.Frag) (C CN CT : Addr) : Sp := fun vs H Q E => ∃ (p d : Addr) (t c : Str) (dy tp : Int) (ob : Option Int) (kvs : List (List Key × V)), vs = [.ref p, .str c, .int dy, .int tp, bV ob] ∧ RatesAt K C H p d t kvs ∧ ob.getD 1 ≤ 2 ^ 200 ∧ kvs.length < 500 ∧ TellQ K C CN CT H Q E p d t c dy tp (ob.getD 1) kvs
theorem sc_divisor : FnScope ["one", "other", "rest"] ["one", "other"] (defScope s_divisor) := ⟨rfl, rfl, rfl, by decide +kernel, rfl, by decide +kernel, by decide +kernel⟩
theorem ok_divisor (D : Def K mg "divisor" s_divisor .none) (z_abs : mg "abs" = none) : Cal P w K mg base CX0 cm 1 "divisor" ["one", "other"] [] spG := by
  obtain ⟨f, fd, F, hm⟩ := D
  refine ⟨f, fd, _, F.ok sc_divisor (fun vs H Q E h => ?_) (fun cdv A outer s H vs Q E hr h => ?_), hm, F.kp, (F.binds fun _ _ _ _ _ _ us hl => match us, hl with | [_, _], _ => rfl), .nil, F.binds fun _ _ _ _ _ _ us hl => match us, hl with | [_, _], _ => rfl⟩
  · obtain ⟨a, b, rfl, q⟩ := h
    rfl
  · obtain ⟨a, b, rfl, q⟩ := h
    have nd := sc_divisor.nd
    refine ⟨_, (pss_cons (ps_set (i := 0) nd rfl (Or.inl rfl) (pe_callB call_absN rfl z_abs bt_abs (pa_cons (pv 0) pa_nil)))
      (pss_cons (ps_set (i := 1) nd rfl (Or.inl rfl) (pe_callB call_absN rfl z_abs bt_abs (pa_cons (pv 1) pa_nil)))
      (pss_cons (ps_while PassesOwn.never (pt_cmpR op_ne (pv 1) pe_int (nomark _)) (pss_cons (ps_set (i := 2) nd rfl (Or.inl rfl) (pe_op op_mod (pv 0) (pv 1)))
      (pss_cons (ps_set (i := 0) nd rfl (Or.inl rfl) (pv 1))
      (pss_one (ps_set (i := 1) nd rfl (Or.inl rfl) (pv 2))))))
      (pss_one (ps_ret (pv 0)))))), ?_⟩
    refine ⟨_, rfl, a, rfl, ?_⟩
    refine ⟨_, rfl, b, rfl, ?_⟩
    
    refine while_by (fun σ H' => ∃ (x y : Int) (r : Option V), σ = [some (.int x), some (.int y), r] ∧ H' = H ∧ 0 ≤ x ∧ 0 ≤ y ∧ N11.gF x y = N11.gF a b) (fun σ _ => match σ with | [_, some (.int y), _] => y.toNat | _ => 0)
      ⟨_, _, none, rfl, rfl, by omega, by omega, N11.g_start a b⟩ ?_ ?_
    · rintro σ H1 ⟨x, y, r, rfl, rfl, hx, hy, hg⟩
      refine ⟨_, rfl, rfl, _, rfl, ?_⟩
      refine ndec2 (fun h => ?_) (fun h => ?_)
      · have hy0 : 0 < y := by (have : y ≠ 0 := fun z => h (congrArg V.int z)); omega
        refine ⟨_, rfl, _, rfl, _, _, rfl, rfl, hy0, _, rfl, _, rfl, ⟨y, x % y, _, rfl, rfl, by omega, Int.emod_nonneg x (by omega), ?_⟩, ?_⟩
        · rw [N11.g_turnE hx hy0]
          exact hg
        · have := Int.emod_lt_of_pos x hy0
          have := Int.emod_nonneg x (show y ≠ 0 by omega)
          show (x % y).toNat < y.toNat
          omega
      · have hy0 : y = 0 := by exact V.int.inj h
        subst hy0
        rw [← N11.g_end hg hx] at q
        exact ⟨_, rfl, q⟩
    · intro σ H1 Q1 Q2 hq z
      obtain ⟨v, e, sc, k, e2, z⟩ := z
      exact ⟨v, e, sc, k, e2, hq _ _ z⟩
theorem sc_fraction : FnScope ["top", "bottom", "shared"] ["top", "bottom"] (defScope s_fraction) := ⟨rfl, rfl, rfl, by decide +kernel, rfl, by decide +kernel, by decide +kernel⟩
theorem ok_fraction {T_fraction : Addr} (D : Def K mg "fraction" s_fraction (.ref T_fraction)) {C_NoNumber : Addr} {od_fraction : Option Addr} {n_fraction : Nat} {sl_fraction : Array (Option Value)} {tk_fraction : Tok} (lT_fraction : K.lookup T_fraction = some ⟨.type "tuple", od_fraction, .seq #[.int 1 tk_fraction] n_fraction, sl_fraction⟩) (c_divisor : Cal P w K mg base CX0 true 1 "divisor" ["one", "other"] [] spG) (m_NoNumber : mg "NoNumber" = some (.ref C_NoNumber)) (X_NoNumber : XCls K C_NoNumber) (i_NoNumber : PySem.W.findIn K (.ref C_NoNumber) "__init__" = some (some (.builtin "ValueError.__init__"))) : Cal P w K mg base (CX1 P w) true 2 "fraction" ["top", "bottom"] [.int 1] (spFrac C_NoNumber) := by
  obtain ⟨f, fd, F, hm⟩ := D
  obtain ⟨f_divisor, fd_divisor, d_divisor, G_divisor, m_divisor, k_divisor, b_divisor, v_divisor, b_divisor1⟩ := c_divisor
  refine ⟨f, fd, _, F.okX sc_fraction (fun vs H Q E h => ?_) (fun cdv A outer s H vs Q E hr h => ?_), hm, F.kp, (F.bindsD (ds := []) lT_fraction 2 rfl fun _ _ _ _ _ _ us hl => match us, hl with | [_, _], _ => ⟨_, rfl, rfl⟩), (.cons ⟨_, rfl⟩ .nil), F.bindsD (ds := [.int 1 tk_fraction]) lT_fraction 1 rfl fun _ _ _ _ _ _ us hl => match us, hl with | [_], _ => ⟨_, rfl, rfl⟩⟩
  · obtain ⟨t, b, rfl, q1, q2⟩ := h
    rfl
  · obtain ⟨t, b, rfl, q1, q2⟩ := h
    have nd := sc_fraction.nd
    refine ⟨_, (pss_cons (ps_if (pt_cmpR op_eq (pv 1) pe_int (nomark _)) (pss_one (ps_raise0 rfl xe_def rfl m_NoNumber X_NoNumber i_NoNumber (pa_cons pe_str pa_nil))) pss_nil)
      (pss_cons (ps_set (i := 2) nd rfl (Or.inl rfl) (pe_call G_divisor (hr.mono (by decide)) rfl m_divisor k_divisor b_divisor Paired.nil pass0 (pa_cons (pv 0) (pa_cons (pv 1) pa_nil))))
      (pss_cons (ps_if (pt_cmpR op_lt (pv 1) pe_int (nomark _)) (pss_one (ps_set (i := 2) nd rfl (Or.inl rfl) (pe_un un_neg (pv 2)))) pss_nil)
      (pss_one (ps_ret (pe_tup (pa_cons (pe_op op_fdivB (pv 0) (pv 2)) (pa_cons (pe_op op_fdivB (pv 1) (pv 2)) pa_nil)))))))), ?_⟩
    refine ⟨_, rfl, rfl, _, rfl, ?_⟩
    refine dec2 (fun h => ?_) (fun h => ?_)
    · exact ⟨by decide, True.intro, q1 (V.int.inj h)⟩
    · have hb : b ≠ 0 := fun z => h (congrArg V.int z)
      obtain ⟨hb2, q⟩ := q2 hb
      have hd := N11.dF_in (t := t) hb
      refine ⟨_, rfl, _, rfl, _, _, rfl, ?_⟩
      refine ⟨_, rfl, _, _, rfl, rfl, _, rfl, ?_⟩
      refine dec2 (fun h1 => ?_) (fun h1 => ?_)
      · rw [show N11.dF t b = _ from if_pos h1] at q hd
        exact ⟨_, rfl, _, rfl, _, rfl, _, rfl, _, _, rfl, rfl, log_of (by omega) (by omega) (by omega), _, rfl, _, rfl, _, _, rfl, rfl, log_of (by omega) (by omega) (by omega), (by show 2 ≤ sizeLine; decide), q⟩
      · rw [show N11.dF t b = _ from if_neg h1] at q hd
        exact ⟨_, rfl, _, rfl, _, _, rfl, rfl, log_of (by omega) (by omega) (by omega), _, rfl, _, rfl, _, _, rfl, rfl, log_of (by omega) (by omega) (by omega), (by show 2 ≤ sizeLine; decide), q⟩
abbrev s_NoRate__init__ : Stmt := inClass (top 4) 0
theorem sc_NoRate__init__ : FnScope ["self", "coin", "day"] ["self", "coin", "day"] (defScope s_NoRate__init__) := ⟨rfl, rfl, rfl, by decide +kernel, rfl, by decide +kernel, by decide +kernel⟩
theorem ok_NoRate__init__ {C_NoRate : Addr} (X_NoRate : XCls K C_NoRate) (n_rcoin : NoAttr K C_NoRate "coin") (n_rday : NoAttr K C_NoRate "day") (D : DefX K C_NoRate "NoRate.__init__" s_NoRate__init__) : CalX P w K mg base true 1 C_NoRate ["self", "coin", "day"] (spXI C_NoRate) := by
  obtain ⟨f, fd, F, hfi, hfn⟩ := D
  refine ⟨f, fd, hfi, hfn, F.ok sc_NoRate__init__ (fun vs H Q E h => ?_) (fun cdv A outer s H vs Q E hr h => ?_), (F.binds fun _ _ _ _ _ _ us hl => match us, hl with | [_, _, _], _ => rfl)⟩
  · obtain ⟨x, c, r, rfl, hx, q⟩ := h
    rfl
  · obtain ⟨x, c, r, rfl, hx, q⟩ := h
    have nd := sc_NoRate__init__.nd
    refine ⟨_, (pss_cons (ps_fldB (pv 0) (pv 1) rfl)
      (pss_one (ps_fldB (pv 0) (pv 2) rfl))), ?_⟩
    refine ⟨_, rfl, _, rfl, x, C_NoRate, rfl, X_NoRate, n_rcoin, .inl ⟨hx, fun d hd hdx => ?_⟩⟩
    refine ⟨_, rfl, _, rfl, x, C_NoRate, rfl, X_NoRate, n_rday, .inr ⟨d, _, upd_same, (by rw [upd_ne hdx]; exact upd_same), (by show 1 < 1000; decide), ?_⟩⟩
    refine q d _ hd hdx upd_same ?_ fun y o hy hyx => ?_
    · rw [upd_ne (Ne.symm hdx)]
      exact upd_same
    · have hyd : y ≠ d := ne_of_none hy hd
      rw [upd_ne hyd, upd_ne hyx, upd_ne hyd]
      exact hy
abbrev s_Twice__init__ : Stmt := inClass (top 5) 0
theorem sc_Twice__init__ : FnScope ["self", "coin", "day"] ["self", "coin", "day"] (defScope s_Twice__init__) := ⟨rfl, rfl, rfl, by decide +kernel, rfl, by decide +kernel, by decide +kernel⟩
theorem ok_Twice__init__ {C_Twice : Addr} (X_Twice : XCls K C_Twice) (n_tcoin : NoAttr K C_Twice "coin") (n_tday : NoAttr K C_Twice "day") (D : DefX K C_Twice "Twice.__init__" s_Twice__init__) : CalX P w K mg base true 1 C_Twice ["self", "coin", "day"] (spXI C_Twice) := by
  obtain ⟨f, fd, F, hfi, hfn⟩ := D
  refine ⟨f, fd, hfi, hfn, F.ok sc_Twice__init__ (fun vs H Q E h => ?_) (fun cdv A outer s H vs Q E hr h => ?_), (F.binds fun _ _ _ _ _ _ us hl => match us, hl with | [_, _, _], _ => rfl)⟩
  · obtain ⟨x, c, r, rfl, hx, q⟩ := h
    rfl
  · obtain ⟨x, c, r, rfl, hx, q⟩ := h
    have nd := sc_Twice__init__.nd
    refine ⟨_, (pss_cons (ps_fldB (pv 0) (pv 1) rfl)
      (pss_one (ps_fldB (pv 0) (pv 2) rfl))), ?_⟩
    refine ⟨_, rfl, _, rfl, x, C_Twice, rfl, X_Twice, n_tcoin, .inl ⟨hx, fun d hd hdx => ?_⟩⟩
    refine ⟨_, rfl, _, rfl, x, C_Twice, rfl, X_Twice, n_tday, .inr ⟨d, _, upd_same, (by rw [upd_ne hdx]; exact upd_same), (by show 1 < 1000; decide), ?_⟩⟩
    refine q d _ hd hdx upd_same ?_ fun y o hy hyx => ?_
    · rw [upd_ne (Ne.symm hdx)]
      exact upd_same
    · have hyd : y ≠ d := ne_of_none hy hd
      rw [upd_ne hyd, upd_ne hyx, upd_ne hyd]
      exact hy
abbrev s_Rates_rate : Stmt := inClass (top 25) 2
theorem sc_Rates_rate : FnScope ["self", "coin", "day", "days"] ["self", "coin", "day"] (defScope s_Rates_rate) := ⟨rfl, rfl, rfl, by decide +kernel, rfl, by decide +kernel, by decide +kernel⟩
theorem ok_Rates_rate {C_Rates : Addr} (D : DefM K C_Rates "rate" "Rates.rate" s_Rates_rate .none) {C_NoRate : Addr} (c_fraction : Cal P w K mg base (CX1 P w) true 2 "fraction" ["top", "bottom"] [.int 1] (spFrac C_NoNumber)) (c_NoRate__init__ : CalX P w K mg base true 1 C_NoRate ["self", "coin", "day"] (spXI C_NoRate)) (z_len : mg "len" = none) (z_max : mg "max" = none) (m_NoRate : mg "NoRate" = some (.ref C_NoRate)) (X_NoRate : XCls K C_NoRate) (cl_Rates : Cls K C_Rates) (n_told : NoAttr K C_Rates "told") (n_known : NoAttr K C_Rates "known") : CalM P w K mg base (CX1 P w) true 3 C_Rates "rate" ["self", "coin", "day"] [] (spRateE K C_Rates C_NoRate) := by
  obtain ⟨f, fd, F, hm⟩ := D
  obtain ⟨f_fraction, fd_fraction, d_fraction, G_fraction, m_fraction, k_fraction, b_fraction, v_fraction, b_fraction1⟩ := c_fraction
  obtain ⟨f_NoRate__init__, fd_NoRate__init__, i_NoRate, fn_NoRate, G_NoRate__init__, b_NoRate__init__⟩ := c_NoRate__init__
  refine ⟨f, fd, _, F.okX sc_Rates_rate (fun vs H Q E h => ?_) (fun cdv A outer s H vs Q E hr h => ?_), hm, (F.binds fun _ _ _ _ _ _ us hl => match us, hl with | [_, _, _], _ => rfl), .nil, F.binds fun _ _ _ _ _ _ us hl => match us, hl with | [_, _, _], _ => rfl⟩
  · obtain ⟨p, d, t, c, dy, kvs, rfl, R, q1, q2, q3⟩ := h
    rfl
  · obtain ⟨p, d, t, c, dy, kvs, rfl, R, q1, q2, q3⟩ := h
    have nd := sc_Rates_rate.nd
    refine ⟨_, (pss_cons (ps_if (pt_cmpR op_eq (pv 1) (pe_fld (pv 0) rfl) (nomark _)) (pss_one (ps_ret (pe_callR G_fraction (hr.mono (by decide)) rfl m_fraction k_fraction b_fraction1 v_fraction xe_def (pa_cons pe_int pa_nil)))) pss_nil)
      (pss_cons (ps_setLCD [1, 2] (i := 3) nd rfl (Or.inl rfl) rfl (LcOk.free ["day", "coin"] rfl rfl (List.forall_mem_cons.mpr ⟨rfl, (List.forall_mem_cons.mpr ⟨rfl, (fun _ h => nomatch h)⟩)⟩) (by decide +kernel) rfl (by decide +kernel) rfl (by decide +kernel) (show (["key", "coin", "day"] : List Str).Nodup from by decide +kernel) (List.forall_mem_cons.mpr ⟨⟨_, rfl, rfl, rfl, by decide +kernel⟩, (List.forall_mem_cons.mpr ⟨⟨_, rfl, rfl, rfl, by decide +kernel⟩, (fun _ h => nomatch h)⟩)⟩)) (pe_fld (pv 0) rfl) (mono_fld (mono_var _)) (fun C s2 H2 fp xe => (PW.pt (pw_and (pt_cmpR op_eq (pe_ix ix_seqC (pv 0) pe_int (fun _ _ => rfl)) (pv 1) (nomark _)) (pw_and1 (pt_cmpR op_le (pe_ix ix_seqC (pv 0) pe_int (fun _ _ => rfl)) (pv 2) (nomark _)))))) (fun C s2 H2 fp xe => (pe_ix ix_seqC (pv 0) pe_int (fun _ _ => rfl))))
      (pss_cons (ps_if (pt_cmpR op_eq (pe_callB call_len_seq rfl z_len bt_len (pa_cons (pv 3) pa_nil)) pe_int (nomark _)) (pss_one (ps_raiseI rfl xe_def rfl m_NoRate X_NoRate i_NoRate fn_NoRate G_NoRate__init__ (hr.mono (by decide)) b_NoRate__init__ (pa_cons (pv 1) (pa_cons (pv 2) pa_nil)))) pss_nil)
      (pss_one (ps_ret (pe_dget (hu_of hr) (pe_fld (pv 0) rfl) (pe_tup (pa_cons (pv 1) (pa_cons (pe_callB (call_max hr) rfl z_max bt_max (pa_cons (pv 3) pa_nil)) pa_nil))) (fun _ _ => rfl))))))), ?_⟩
    obtain ⟨⟨dx, fs, hp, ht, hk, hno⟩, hd, hln, hks⟩ := R
    have hline : 600 ≤ sizeLine := by decide
    refine ⟨_, rfl, _, rfl, p, C_Rates, dx, fs, _, rfl, hp, cl_Rates, n_told, ht, rfl, _, rfl, ?_⟩
    refine dec2 (fun h => ?_) (fun h => ?_)
    · refine ⟨True.intro, _, _, rfl, (fun z => absurd z (by decide)), fun _ => ⟨by decide, fun r hr1 => ?_⟩⟩
      rw [show Int.fdiv 1 (N11.dF 1 1) = 1 by decide]
      exact q1 (V.str.inj h) r _ (same_upd hr1) upd_same
    have hct : c ≠ t := fun z => h (congrArg V.str z)
    refine ⟨_, rfl, p, C_Rates, dx, fs, _, rfl, hp, cl_Rates, n_known, hk, d, kvs, fK c dy, (fun k => V.int (gI k)), rfl, hd, by omega, fun k hkm a Hx ha => ?_, fun l hl => ?_⟩
    · obtain ⟨c', d', rfl⟩ := hks k hkm
      have hT := SqT.of (K := K) (show Hx a = some (.tup [.str c', .int d']) from ha)
      refine ⟨_, rfl, .inr (.inl ⟨a, _, 0, _, rfl, rfl, hT, rfl, _, rfl, rfl, _, rfl, ?_⟩)⟩
      refine dec2 (fun h1 => ?_) (fun h1 => ?_)
      · refine ⟨_, rfl, .inr (.inl ⟨a, _, 1, _, rfl, rfl, hT, rfl, _, rfl, _, _, rfl, rfl, _, rfl, ?_⟩)⟩
        refine dec2 (fun h2 => ?_) (fun h2 => ?_)
        · refine ⟨_, rfl, .inr (.inl ⟨a, _, 1, _, rfl, rfl, hT, rfl, ?_, rfl, rfl⟩)⟩
          simp only [fK]
          rw [decide_eq_true h1, decide_eq_true h2]
          rfl
        · refine ⟨?_, rfl⟩
          simp only [fK]
          rw [decide_eq_false h2, Bool.and_false]
      · refine iteF ⟨?_, rfl⟩
        simp only [fK]
        rw [decide_eq_false h1, Bool.false_and]
    have el : ((kvs.map (·.1)).filter (fK c dy)).map (fun k => V.int (gI k)) = (daysOf c dy kvs).map V.int := by
      unfold daysOf
      rw [List.map_map]
      rfl
    rw [el]
    have e1 := same_upd (o := .lst ((daysOf c dy kvs).map V.int)) hl
    refine ⟨_, rfl, l, _, rfl, .inl (SqL.of upd_same), rfl, _, rfl, ?_⟩
    refine dec2 (fun h0 => ?_) (fun h0 => ?_)
    · have hnil : daysOf c dy kvs = [] := by
        have := V.int.inj h0
        rw [List.length_map] at this
        exact List.length_eq_zero_iff.mp (by omega)
      exact ⟨_, rfl, _, rfl, (by show 2 ≤ sizeLine; decide), True.intro, fun x hx0 => ⟨x, _, _, rfl, upd_same, fun e H' hd1 hdx g1 g2 keep => ⟨rfl, some e, g2, q2 hct hnil e _ (e1.trans (after_x hx0 keep)) (by show (if e = x then none else H' e) = _; rw [if_neg hdx]; exact g1)⟩⟩⟩
    have hl0 : 0 < (daysOf c dy kvs).length := by
      rcases Nat.eq_zero_or_pos (daysOf c dy kvs).length with z | z
      · exact absurd (congrArg V.int (show (((daysOf c dy kvs).map V.int).length : Int) = 0 by rw [List.length_map]; omega)) h0
      · exact z
    have hne : daysOf c dy kvs ≠ [] := fun z => by rw [z] at hl0; exact absurd hl0 (by decide)
    refine ⟨_, rfl, p, C_Rates, dx, fs, _, rfl, (e1 _ _ hp), cl_Rates, n_known, hk, _, rfl, _, rfl, l, _, rfl, SqL.of upd_same, hl0, fun m hm hmx => ?_⟩
    obtain ⟨v, hv, q⟩ := q3 hct hne m hm hmx
    refine ⟨(by show 2 ≤ sizeLine; decide), fun tp htp => ?_⟩
    have e2 := same_upd (o := .tup [.str c, .int m]) htp
    have g := DGet.t (k := [Sum.inr c, Sum.inl m]) ((e1.trans e2) _ _ hd) (show (upd (upd H l (.lst ((daysOf c dy kvs).map V.int))) tp (.tup [.str c, .int m])) tp = some (.tup (([Sum.inr c, Sum.inl m] : List Key).map kV)) from upd_same)
    rw [hv] at g
    exact ⟨d, v, rfl, g, q _ (e1.trans e2)⟩
abbrev s_Rates___init__ : Stmt := inClass (top 25) 0
theorem sc_Rates___init__ : FnScope ["self", "told"] ["self", "told"] (defScope s_Rates___init__) := ⟨rfl, rfl, rfl, by decide +kernel, rfl, by decide +kernel, by decide +kernel⟩
theorem ok_Rates___init__ {C_Rates : Addr} {T_Rates___init__ : Addr} (D : DefI K C_Rates "Rates.__init__" s_Rates___init__ (.ref T_Rates___init__)) {od_Rates___init__ : Option Addr} {n_Rates___init__ : Nat} {sl_Rates___init__ : Array (Option Value)} {tk_Rates___init__ : Tok} (lT_Rates___init__ : K.lookup T_Rates___init__ = some ⟨.type "tuple", od_Rates___init__, .seq #[.str "one" tk_Rates___init__] n_Rates___init__, sl_Rates___init__⟩) (cl_Rates : Cls K C_Rates) (n_told : NoAttr K C_Rates "told") (n_known : NoAttr K C_Rates "known") : CalI P w K mg base CX0 cm 1 C_Rates ["self", "told"] [.str "one"] (spInit K C_Rates) := by
  obtain ⟨f, fd, F, hm⟩ := D
  refine ⟨f, fd, _, F.ok sc_Rates___init__ (fun vs H Q E h => ?_) (fun cdv A outer s H vs Q E hr h => ?_), hm, (F.bindsD (ds := []) lT_Rates___init__ 2 rfl fun _ _ _ _ _ _ us hl => match us, hl with | [_, _], _ => ⟨_, rfl, rfl⟩), (.cons ⟨_, rfl⟩ .nil), F.bindsD (ds := [.str "one" tk_Rates___init__]) lT_Rates___init__ 1 rfl fun _ _ _ _ _ _ us hl => match us, hl with | [_], _ => ⟨_, rfl, rfl⟩⟩
  · obtain ⟨p, dx, t, rfl, hp, q⟩ := h
    rfl
  · obtain ⟨p, dx, t, rfl, hp, q⟩ := h
    have nd := sc_Rates___init__.nd
    refine ⟨_, (pss_cons (ps_fld (pv 0) (pv 1) rfl)
      (pss_one (ps_fld (pv 0) pe_dnewT rfl))), ?_⟩
    refine ⟨_, rfl, _, rfl, p, C_Rates, dx, [], rfl, hp, cl_Rates, n_told, (by show 0 < 1000; decide), fun d hd => ?_⟩
    have npd : p ≠ d := ne_of_none upd_same hd
    have hd0 : H d = none := by
      rw [upd_ne (Ne.symm npd)] at hd
      exact hd
    refine ⟨_, rfl, p, C_Rates, dx, _, rfl, (by rw [upd_ne npd]; exact upd_same), cl_Rates, n_known, (by show 1 < 1000; decide), ?_⟩
    refine q d _ hd0 ⟨⟨dx, _, upd_same, ?_, ?_, fun m hm => ?_⟩, ?_, by decide, fun k hk => nomatch hk⟩ fun b o e hb => ?_
    · rw [lookup_putF, if_neg tk_ne, lookup_putF, if_pos rfl]
    · rw [lookup_putF, if_pos rfl]
    · rw [lookup_putF, lookup_putF]
      have h1 : ¬ m = ("known" : Str) := by
        intro z
        subst z
        exact absurd hm (by decide +kernel)
      have h2 : ¬ m = ("told" : Str) := by
        intro z
        subst z
        exact absurd hm (by decide +kernel)
      rw [if_neg h1, if_neg h2]
      rfl
    · rw [upd_ne (Ne.symm npd), upd_same]
    · rw [upd_ne hb, upd_ne (ne_of_none e hd0), upd_ne hb]
      exact e
abbrev s_Rates_tell : Stmt := inClass (top 25) 1
theorem sc_Rates_tell : FnScope ["self", "coin", "day", "top", "bottom"] ["self", "coin", "day", "top", "bottom"] (defScope s_Rates_tell) := ⟨rfl, rfl, rfl, by decide +kernel, rfl, by decide +kernel, by decide +kernel⟩
theorem ok_Rates_tell {C_Rates : Addr} {T_Rates_tell : Addr} (D : DefM K C_Rates "tell" "Rates.tell" s_Rates_tell (.ref T_Rates_tell)) {C_NoNumber C_Twice : Addr} {od_Rates_tell : Option Addr} {n_Rates_tell : Nat} {sl_Rates_tell : Array (Option Value)} {tk_Rates_tell : Tok} (lT_Rates_tell : K.lookup T_Rates_tell = some ⟨.type "tuple", od_Rates_tell, .seq #[.int 1 tk_Rates_tell] n_Rates_tell, sl_Rates_tell⟩) (c_Twice__init__ : CalX P w K mg base true 1 C_Twice ["self", "coin", "day"] (spXI C_Twice)) (c_fraction : Cal P w K mg base (CX1 P w) true 2 "fraction" ["top", "bottom"] [.int 1] (spFrac C_NoNumber)) (m_NoNumber : mg "NoNumber" = some (.ref C_NoNumber)) (m_Twice : mg "Twice" = some (.ref C_Twice)) (X_NoNumber : XCls K C_NoNumber) (X_Twice : XCls K C_Twice) (i_NoNumber : PySem.W.findIn K (.ref C_NoNumber) "__init__" = some (some (.builtin "ValueError.__init__"))) (cl_Rates : Cls K C_Rates) (n_told : NoAttr K C_Rates "told") (n_known : NoAttr K C_Rates "known") : CalM P w K mg base (CX1 P w) true 3 C_Rates "tell" ["self", "coin", "day", "top", "bottom"] [.int 1] (spTellE K C_Rates C_NoNumber C_Twice) := by
  obtain ⟨f, fd, F, hm⟩ := D
  obtain ⟨f_Twice__init__, fd_Twice__init__, i_Twice, fn_Twice, G_Twice__init__, b_Twice__init__⟩ := c_Twice__init__
  obtain ⟨f_fraction, fd_fraction, d_fraction, G_fraction, m_fraction, k_fraction, b_fraction, v_fraction, b_fraction1⟩ := c_fraction
  refine ⟨f, fd, _, F.okX sc_Rates_tell (fun vs H Q E h => ?_) (fun cdv A outer s H vs Q E hr h => ?_), hm, (F.bindsD (ds := []) lT_Rates_tell 5 rfl fun _ _ _ _ _ _ us hl => match us, hl with | [_, _, _, _, _], _ => ⟨_, rfl, rfl⟩), (.cons ⟨_, rfl⟩ .nil), F.bindsD (ds := [.int 1 tk_Rates_tell]) lT_Rates_tell 4 rfl fun _ _ _ _ _ _ us hl => match us, hl with | [_, _, _, _], _ => ⟨_, rfl, rfl⟩⟩
  · obtain ⟨p, d, t, c, dy, tp, bt, kvs, rfl, R, h3, hlen, q1, q2, q3⟩ := h
    rfl
  · obtain ⟨p, d, t, c, dy, tp, bt, kvs, rfl, R, h3, hlen, q1, q2, q3⟩ := h
    have nd := sc_Rates_tell.nd
    refine ⟨_, (pss_cons (ps_if (PW.pt (pw_or (pt_cmpR op_lt (pv 3) pe_int (nomark _)) (pw_or1 (pt_cmpR op_lt (pv 4) pe_int (nomark _))))) (pss_one (ps_raise0 rfl xe_def rfl m_NoNumber X_NoNumber i_NoNumber (pa_cons pe_str pa_nil))) pss_nil)
      (pss_cons (ps_if (PW.pt (pw_or (pt_cmpR op_eq (pv 1) (pe_fld (pv 0) rfl) (nomark _)) (pw_or1 (pt_cmp (pc_din (hu_of hr) (pe_tup (pa_cons (pv 1) (pa_cons (pv 2) pa_nil))) (pe_fld (pv 0) rfl)))))) (pss_one (ps_raiseI rfl xe_def rfl m_Twice X_Twice i_Twice fn_Twice G_Twice__init__ (hr.mono (by decide)) b_Twice__init__ (pa_cons (pv 1) (pa_cons (pv 2) pa_nil)))) pss_nil)
      (pss_one (ps_dput (hu_of hr) (pe_fld (pv 0) rfl) (pe_tup (pa_cons (pv 1) (pa_cons (pv 2) pa_nil))) (pe_callR G_fraction (hr.mono (by decide)) rfl m_fraction k_fraction b_fraction Paired.nil xe_def (pa_cons (pv 3) (pa_cons (pv 4) pa_nil))) rfl)))), ?_⟩
    obtain ⟨⟨dx, fs, hp, ht, hk, hno⟩, hd, hln, hks⟩ := R
    have hline : 600 ≤ sizeLine := by decide
    refine ⟨_, rfl, _, _, rfl, rfl, _, rfl, ?_⟩
    refine dec2 (fun h1 => iteT ⟨by decide, True.intro, q1 (.inl h1)⟩) (fun h1 => ?_)
    refine ⟨_, rfl, _, _, rfl, rfl, _, rfl, ?_⟩
    refine dec2 (fun h2 => ⟨by decide, True.intro, q1 (.inr h2)⟩) (fun h2 => ?_)
    have h1' : 1 ≤ tp := by omega
    have h2' : 1 ≤ bt := by omega
    refine ⟨_, rfl, _, rfl, p, C_Rates, dx, fs, _, rfl, hp, cl_Rates, n_told, ht, rfl, _, rfl, ?_⟩
    refine dec2 (fun h3 => iteT ⟨_, rfl, _, rfl, (by show 2 ≤ sizeLine; decide), True.intro, fun x hx0 => ⟨x, _, _, rfl, upd_same, fun e H' hd1 hdx g1 g2 keep => ⟨rfl, some e, g2, q2 h1' h2' (.inl (V.str.inj h3)) e _ (after_x hx0 keep) (by show (if e = x then none else H' e) = _; rw [if_neg hdx]; exact g1)⟩⟩⟩) (fun h3 => ?_)
    have hct : c ≠ t := fun z => h3 (congrArg V.str z)
    refine ⟨_, rfl, _, rfl, (by show 2 ≤ sizeLine; decide), fun k1 hk1 => ?_⟩
    have e1 := same_upd (o := .tup [.str c, .int dy]) hk1
    have g := DGet.t (k := [Sum.inr c, Sum.inl dy]) (e1 _ _ hd) (show (upd H k1 (.tup [.str c, .int dy])) k1 = some (.tup (([Sum.inr c, Sum.inl dy] : List Key).map kV)) from upd_same)
    cases hval : valV kvs [Sum.inr c, Sum.inl dy] with
    | some v0 =>
      rw [hval] at g
      exact ⟨_, rfl, p, C_Rates, dx, fs, _, rfl, (e1 _ _ hp), cl_Rates, n_known, hk, d, _, rfl, g, _, rfl, iteT ⟨_, rfl, _, rfl, (by show 2 ≤ sizeLine; decide), True.intro, fun x hx0 => ⟨x, _, _, rfl, upd_same, fun e H' hd1 hdx g1 g2 keep => ⟨rfl, some e, g2, q2 h1' h2' (.inr (by rw [hval]; intro z; cases z)) e _ (e1.trans (after_x hx0 keep)) (by show (if e = x then none else H' e) = _; rw [if_neg hdx]; exact g1)⟩⟩⟩⟩
    | none =>
      rw [hval] at g
      refine ⟨_, rfl, p, C_Rates, dx, fs, _, rfl, (e1 _ _ hp), cl_Rates, n_known, hk, d, _, rfl, g, _, rfl, iteF ?_⟩
      refine ⟨_, rfl, _, rfl, True.intro, tp, bt, rfl, (fun z => absurd z (by omega)), fun _ => ⟨by omega, fun r hr1 => ?_⟩⟩
      have e2 := same_upd (o := .tup [.int (Int.fdiv tp (N11.dF tp bt)), .int (Int.fdiv bt (N11.dF tp bt))]) hr1
      refine ⟨_, rfl, p, C_Rates, dx, fs, _, rfl, ((e1.trans e2) _ _ hp), cl_Rates, n_known, hk, _, rfl, _, rfl, (by show 2 ≤ sizeLine; decide), fun k2 hk2 => ?_⟩
      have e3 := same_upd (o := .tup [.str c, .int dy]) hk2
      have e := (e1.trans e2).trans e3
      refine ⟨d, _, rfl, DPut.t (k := [Sum.inr c, Sum.inl dy]) (e _ _ hd) (show (upd _ k2 (.tup [.str c, .int dy])) k2 = some (.tup (([Sum.inr c, Sum.inl dy] : List Key).map kV)) from upd_same) (by omega), ?_⟩
      rw [putK_new _ hval]
      have nr : r ≠ d := ne_of_none_r (e1 _ _ hd) hr1
      refine q3 h1' h2' hct hval r _ ?_ ⟨⟨dx, fs, ?_, ht, hk, hno⟩, upd_same, by rw [List.length_append]; show kvs.length + 1 ≤ 500; omega, fun k hkm => ?_⟩ fun b o eb hb => ?_
      · rw [upd_ne nr]
        exact e3 _ _ upd_same
      · rw [upd_ne (ne_of hp hd (by intro z; cases z))]
        exact e _ _ hp
      · rw [List.map_append] at hkm
        rcases List.mem_append.mp hkm with m | m
        · exact hks k m
        · exact ⟨c, dy, List.mem_singleton.mp m⟩
      · rw [upd_ne hb]
        exact e _ _ eb
def L26 : Str := "abcdefghijklmnopqrstuvwxyz"
theorem l26_at {i : Int} (h0 : 0 ≤ i) (h1 : i < 26) : atI L26.cps.toList i = some (97 + i.toNat) := by
  obtain ⟨n, rfl⟩ := Int.eq_ofNat_of_zero_le h0
  have hn : n < 26 := by omega
  have all : ∀ n, n < 26 → L26.cps.toList[n]? = some (97 + n) := by decide +kernel
  exact atI_nat (all n hn)
theorem l26_len : L26.length ≤ sizeLine := by decide +kernel
def sgn (i : Int) : Str := ⟨#[97 + i.toNat]⟩
theorem sgn_inj {i j : Int} (h : sgn i = sgn j) : i.toNat = j.toNat := by
  have e := congrArg (fun s => s.cps.toList) h
  simp [sgn] at e
  exact e
def nmK (b : Str) (at_ F : Int) (k : Nat) : Str := Txt.slice b none (some at_) ++ sgn ((F + (0 + (k : Int))) % 26) ++ Txt.slice b (some (at_ + 1)) none
theorem nmK_ne {b : Str} {at_ F : Int} {j k : Nat} (h : j < k) (hk : k < 3) : nmK b at_ F j ≠ nmK b at_ F k := fun e => by
  have := sgn_inj (str_app_inj e)
  omega
def spNames : Sp := fun vs H Q _ => ∃ c : Int, vs = [.int c] ∧ ∀ l x y z H', Same H H' → H' l = some (.lst [.str x, .str y, .str z]) → x ≠ y → x ≠ z → y ≠ z → Q (.ref l) H'

theorem sc__law_names : FnScope ["_law_cell_here", "_law_letters", "_law_size", "_law_step", "_law_first", "_law_base", "_law_k", "_law_at", "_law_names_here", "_law_sign"] ["_law_cell_here"] (defScope s__law_names) := ⟨rfl, rfl, rfl, by decide +kernel, rfl, by decide +kernel, by decide +kernel⟩
theorem ok__law_names (D : Def K mg "_law_names" s__law_names .none) (z_range : mg "range" = none) : Cal P w K mg base CX0 true 1 "_law_names" ["_law_cell_here"] [] spNames := by
  obtain ⟨f, fd, F, hm⟩ := D
  refine ⟨f, fd, _, F.ok sc__law_names (fun vs H Q E h => ?_) (fun cdv A outer s H vs Q E hr h => ?_), hm, F.kp, (F.binds fun _ _ _ _ _ _ us hl => match us, hl with | [_], _ => rfl), .nil, F.binds fun _ _ _ _ _ _ us hl => match us, hl with | [_], _ => rfl⟩
  · obtain ⟨c, rfl, q⟩ := h
    rfl
  · obtain ⟨c, rfl, q⟩ := h
    have nd := sc__law_names.nd
    refine ⟨_, (pss_cons (ps_set (i := 1) nd rfl (Or.inl rfl) pe_str)
      (pss_cons (ps_set (i := 2) nd rfl (Or.inl rfl) (pe_op op_add pe_int (pe_op op_mod (pv 0) pe_int)))
      (pss_cons (ps_set (i := 3) nd rfl (Or.inl rfl) (pe_op op_mod (pe_op op_fdiv (pv 0) pe_int) pe_int))
      (pss_cons (ps_set (i := 4) nd rfl (Or.inl rfl) (pe_op op_mod (pe_op op_fdiv (pv 0) pe_int) pe_int))
      (pss_cons (ps_set (i := 5) nd rfl (Or.inl rfl) pe_str)
      (pss_cons (ps_for PassesOwn.never rfl (pi_range1 rfl z_range (pa_cons (pv 2) pa_nil)) (pg_name (i := 6) nd rfl (Or.inl rfl)) (pss_one (ps_set (i := 5) nd rfl (Or.inl rfl) (pe_op op_add_str (pv 5) (pe_ix ix_seq (pv 1) (pe_op op_mod (pe_op op_add (pv 4) (pe_op op_mulB (pv 6) (pv 3))) pe_int) (fun _ _ => rfl))))))
      (pss_cons (ps_if (PW.pt (pw_and (pt_cmpR op_eq (pe_op op_mod (pe_op op_fdiv (pv 0) pe_int) pe_int) pe_int (nomark _)) (pw_and1 (pt_cmpR op_gt (pv 2) pe_int (nomark _))))) (pss_one (ps_ret (pe_lst (pa_cons (pe_slice sl_str (pv 5) po_none (po_some (pe_op op_sub (pv 2) pe_int))) (pa_cons (pv 5) (pa_cons (pe_slice sl_str (pv 5) po_none (po_some (pe_op op_sub (pv 2) pe_int))) pa_nil)))))) pss_nil)
      (pss_cons (ps_set (i := 7) nd rfl (Or.inl rfl) (pe_op op_mod (pe_op op_fdiv (pv 0) pe_int) (pv 2)))
      (pss_cons (ps_set (i := 8) nd rfl (Or.inl rfl) (pe_lst pa_nil))
      (pss_cons (ps_for PassesOwn.never rfl (pi_range1 rfl z_range (pa_cons pe_int pa_nil)) (pg_name (i := 6) nd rfl (Or.inl rfl)) (pss_cons (ps_set (i := 9) nd rfl (Or.inl rfl) (pe_ix ix_seq (pv 1) (pe_op op_mod (pe_op op_add (pe_op op_add (pv 4) (pe_op op_mulB (pv 7) (pv 3))) (pv 6)) pe_int) (fun _ _ => rfl)))
      (pss_one (ps_expr (pe_bm PySem.F.plainAttrs_list PySem.F.slot_list_append PySem.F.type_list_append mt_append (pv 8) (pa_cons (pe_op op_add_str (pe_op op_add_str (pe_slice sl_str (pv 5) po_none (po_some (pv 7))) (pv 9)) (pe_slice sl_str (pv 5) (po_some (pe_op op_add (pv 7) pe_int)) po_none)) pa_nil))))))
      (pss_one (ps_ret (pv 8))))))))))))), ?_⟩
    have hline : 600 ≤ sizeLine := by decide
    refine ⟨_, rfl, _, _, rfl, rfl, (by show (0 : Int) < 8; decide), _, _, rfl, rfl, ?_⟩
    refine ⟨_, rfl, _, _, rfl, rfl, ⟨by decide, by decide⟩, _, _, rfl, rfl, (by show (0 : Int) < 5; decide), ?_⟩
    refine ⟨_, rfl, _, _, rfl, rfl, ⟨by decide, by decide⟩, _, _, rfl, rfl, (by show (0 : Int) < 26; decide), ?_⟩
    refine ⟨_, rfl, _, rfl, by omega, by omega, ?_⟩
    refine for_range (fun i σ H' => ∃ (b : Str) (o : Option V), σ = [some (.int c), some (.str L26), some (.int (1 + c % 8)), some (.int (c / 8 % 5)), some (.int (c / 40 % 26)), some (.str b), o, none, none, none] ∧ b.length = i ∧ H' = H) ⟨_, none, rfl, rfl, rfl⟩ ?_ ?_
    · rintro i σ H' hi ⟨b, o, rfl, hb, rfl⟩
      have hi8 : i < 8 := by omega
      have m0 := Int.emod_nonneg (c / 40 % 26 + (0 + (i : Int)) * (c / 8 % 5)) (show (26 : Int) ≠ 0 by decide)
      have m1 := Int.emod_lt_of_pos (c / 40 % 26 + (0 + (i : Int)) * (c / 8 % 5)) (show (0 : Int) < 26 by decide)
      refine ⟨_, rfl, _, rfl, _, rfl, _, rfl, _, rfl, _, _, rfl, rfl, mul_of (by omega) (by omega) (by omega) (by omega), _, _, rfl, rfl, _, _, rfl, rfl, (by show (0 : Int) < 26; decide), .inr (.inr ⟨L26, _, _, rfl, rfl, l26_len, l26_at m0 m1, ?_⟩)⟩
      refine ⟨b, _, rfl, rfl, (by show b.length + 1 ≤ sizeLine; omega), ?_⟩
      exact ⟨_, _, rfl, by rw [str_len_app, hb]; rfl, rfl⟩
    rintro σ H0 ⟨b, o, rfl, hb, rfl⟩
    refine ⟨_, rfl, _, _, rfl, rfl, ⟨by decide, by decide⟩, _, _, rfl, rfl, (by show (0 : Int) < 3; decide), rfl, _, rfl, ?_⟩
    refine dec2 (fun h0 => ?_) (fun h0 => ?_)
    · refine ⟨_, rfl, _, _, rfl, rfl, _, rfl, ?_⟩
      refine dec2 (fun h1 => ?_) (fun h1 => ?_)
      · have n1 : (Txt.slice b none (some (1 + c % 8 - 1))).length = (1 + c % 8 - 1).toNat := by
          have := slice_pre_len b (1 + c % 8 - 1).toNat (by omega)
          rw [show (((1 + c % 8 - 1).toNat : Nat) : Int) = 1 + c % 8 - 1 by omega] at this
          exact this
        have n2 : (Txt.slice b none (some (1 + c % 8 - 2))).length = (1 + c % 8 - 2).toNat := by
          have := slice_pre_len b (1 + c % 8 - 2).toNat (by omega)
          rw [show (((1 + c % 8 - 2).toNat : Nat) : Int) = 1 + c % 8 - 2 by omega] at this
          exact this
        refine ⟨_, rfl, _, rfl, _, _, rfl, rfl, _, rfl, b, rfl, by omega, _, rfl, _, rfl, _, rfl, _, _, rfl, rfl, _, rfl, b, rfl, by omega, (by show 3 ≤ sizeLine; decide), fun l hl => ?_⟩
        refine q l _ _ _ _ (same_upd hl) upd_same (fun e => ?_) (fun e => ?_) (fun e => ?_)
        · rw [e] at n1; omega
        · rw [e] at n1; omega
        · rw [← e] at n2; omega
      · have hat := Int.emod_nonneg (c / 3120) (show 1 + c % 8 ≠ 0 by omega)
        have hat2 := Int.emod_lt_of_pos (c / 3120) (show 0 < 1 + c % 8 by omega)
        refine ⟨_, rfl, _, _, rfl, rfl, ⟨by decide, by decide⟩, _, rfl, _, _, rfl, rfl, (by show (0 : Int) < 1 + c % 8; omega), ?_⟩
        refine ⟨(by show 0 ≤ sizeLine; decide), fun l hl => ?_⟩
        refine ⟨_, rfl, by decide, by decide, ?_⟩
        refine for_range (fun i σ H' => ∃ (o o2 : Option V), σ = [some (.int c), some (.str L26), some (.int (1 + c % 8)), some (.int (c / 8 % 5)), some (.int (c / 40 % 26)), some (.str b), o, some (.int (c / 3120 % (1 + c % 8))), some (.ref l), o2] ∧ Same H0 H' ∧ H' l = some (.lst ((List.range i).map fun k => V.str (nmK b (c / 3120 % (1 + c % 8)) (c / 40 % 26 + c / 3120 % (1 + c % 8) * (c / 8 % 5)) k)))) ⟨_, none, rfl, same_upd hl, upd_same⟩ ?_ ?_
        · rintro i σ H' hi ⟨o, o2, rfl, e, hll⟩
          have hi3 : i < 3 := hi
          have m0 := Int.emod_nonneg (c / 40 % 26 + c / 3120 % (1 + c % 8) * (c / 8 % 5) + (0 + (i : Int))) (show (26 : Int) ≠ 0 by decide)
          have m1 := Int.emod_lt_of_pos (c / 40 % 26 + c / 3120 % (1 + c % 8) * (c / 8 % 5) + (0 + (i : Int))) (show (0 : Int) < 26 by decide)
          refine ⟨_, rfl, _, rfl, _, rfl, _, rfl, _, _, rfl, rfl, mul_of (by omega) (by omega) (by omega) (by omega), _, _, rfl, rfl, _, rfl, _, _, rfl, rfl, _, _, rfl, rfl, (by show (0 : Int) < 26; decide), .inr (.inr ⟨L26, _, _, rfl, rfl, l26_len, l26_at m0 m1, ?_⟩)⟩
          have z1 := Txt.slice_le b none (some (c / 3120 % (1 + c % 8)))
          have z2 := Txt.slice_le b (some (c / 3120 % (1 + c % 8) + 1)) none
          have zs : ∀ i, (sgn i).length = 1 := fun _ => rfl
          refine ⟨_, rfl, .inl ⟨rfl, _, SqL.of hll⟩, _, rfl, _, rfl, _, rfl, b, rfl, by omega, _, rfl, _, _, rfl, rfl, (by have := zs ((c / 40 % 26 + c / 3120 % (1 + c % 8) * (c / 8 % 5) + (0 + (i : Int))) % 26); show _ + (sgn _).length ≤ sizeLine; omega), _, rfl, _, rfl, _, _, rfl, rfl, _, rfl, b, rfl, by omega, _, _, rfl, rfl, (by have := zs ((c / 40 % 26 + c / 3120 % (1 + c % 8) * (c / 8 % 5) + (0 + (i : Int))) % 26); have := str_len_app (Txt.slice b none (some (c / 3120 % (1 + c % 8)))) (sgn ((c / 40 % 26 + c / 3120 % (1 + c % 8) * (c / 8 % 5) + (0 + (i : Int))) % 26)); show (_ ++ sgn _).length + _ ≤ sizeLine; omega), ?_⟩
          refine ⟨l, _, _, rfl, rfl, hll, (by rw [List.length_map, List.length_range]; omega), ?_⟩
          refine ⟨_, _, rfl, same_set e hl, ?_⟩
          rw [upd_same, List.range_succ, List.map_append]
          rfl
        · rintro σ H' ⟨o, o2, rfl, e, hll⟩
          exact ⟨_, rfl, q l _ _ _ H' e hll (nmK_ne (by decide) (by decide)) (nmK_ne (by decide) (by decide)) (nmK_ne (by decide) (by decide))⟩
    · refine iteF ?_
      have hat := Int.emod_nonneg (c / 3120) (show 1 + c % 8 ≠ 0 by omega)
      have hat2 := Int.emod_lt_of_pos (c / 3120) (show 0 < 1 + c % 8 by omega)
      refine ⟨_, rfl, _, _, rfl, rfl, ⟨by decide, by decide⟩, _, rfl, _, _, rfl, rfl, (by show (0 : Int) < 1 + c % 8; omega), ?_⟩
      refine ⟨(by show 0 ≤ sizeLine; decide), fun l hl => ?_⟩
      refine ⟨_, rfl, by decide, by decide, ?_⟩
      refine for_range (fun i σ H' => ∃ (o o2 : Option V), σ = [some (.int c), some (.str L26), some (.int (1 + c % 8)), some (.int (c / 8 % 5)), some (.int (c / 40 % 26)), some (.str b), o, some (.int (c / 3120 % (1 + c % 8))), some (.ref l), o2] ∧ Same H0 H' ∧ H' l = some (.lst ((List.range i).map fun k => V.str (nmK b (c / 3120 % (1 + c % 8)) (c / 40 % 26 + c / 3120 % (1 + c % 8) * (c / 8 % 5)) k)))) ⟨_, none, rfl, same_upd hl, upd_same⟩ ?_ ?_
      · rintro i σ H' hi ⟨o, o2, rfl, e, hll⟩
        have hi3 : i < 3 := hi
        have m0 := Int.emod_nonneg (c / 40 % 26 + c / 3120 % (1 + c % 8) * (c / 8 % 5) + (0 + (i : Int))) (show (26 : Int) ≠ 0 by decide)
        have m1 := Int.emod_lt_of_pos (c / 40 % 26 + c / 3120 % (1 + c % 8) * (c / 8 % 5) + (0 + (i : Int))) (show (0 : Int) < 26 by decide)
        refine ⟨_, rfl, _, rfl, _, rfl, _, rfl, _, _, rfl, rfl, mul_of (by omega) (by omega) (by omega) (by omega), _, _, rfl, rfl, _, rfl, _, _, rfl, rfl, _, _, rfl, rfl, (by show (0 : Int) < 26; decide), .inr (.inr ⟨L26, _, _, rfl, rfl, l26_len, l26_at m0 m1, ?_⟩)⟩
        have z1 := Txt.slice_le b none (some (c / 3120 % (1 + c % 8)))
        have z2 := Txt.slice_le b (some (c / 3120 % (1 + c % 8) + 1)) none
        have zs : ∀ i, (sgn i).length = 1 := fun _ => rfl
        refine ⟨_, rfl, .inl ⟨rfl, _, SqL.of hll⟩, _, rfl, _, rfl, _, rfl, b, rfl, by omega, _, rfl, _, _, rfl, rfl, (by have := zs ((c / 40 % 26 + c / 3120 % (1 + c % 8) * (c / 8 % 5) + (0 + (i : Int))) % 26); show _ + (sgn _).length ≤ sizeLine; omega), _, rfl, _, rfl, _, _, rfl, rfl, _, rfl, b, rfl, by omega, _, _, rfl, rfl, (by have := zs ((c / 40 % 26 + c / 3120 % (1 + c % 8) * (c / 8 % 5) + (0 + (i : Int))) % 26); have := str_len_app (Txt.slice b none (some (c / 3120 % (1 + c % 8)))) (sgn ((c / 40 % 26 + c / 3120 % (1 + c % 8) * (c / 8 % 5) + (0 + (i : Int))) % 26)); show (_ ++ sgn _).length + _ ≤ sizeLine; omega), ?_⟩
        refine ⟨l, _, _, rfl, rfl, hll, (by rw [List.length_map, List.length_range]; omega), ?_⟩
        refine ⟨_, _, rfl, same_set e hl, ?_⟩
        rw [upd_same, List.range_succ, List.map_append]
        rfl
      · rintro σ H' ⟨o, o2, rfl, e, hll⟩
        exact ⟨_, rfl, q l _ _ _ H' e hll (nmK_ne (by decide) (by decide)) (nmK_ne (by decide) (by decide)) (nmK_ne (by decide) (by decide))⟩
theorem sc__law_cell : FnScope ["_law_script", "_law_k"] ["_law_script", "_law_k"] (defScope s__law_cell) := ⟨rfl, rfl, rfl, by decide +kernel, rfl, by decide +kernel, by decide +kernel⟩
theorem ok__law_cell (D : Def K mg "_law_cell" s__law_cell .none) (z_len : mg "len" = none) : Cal P w K mg base CX0 cm 1 "_law_cell" ["_law_script", "_law_k"] [] (spCell K) := by
  obtain ⟨f, fd, F, hm⟩ := D
  refine ⟨f, fd, _, F.ok sc__law_cell (fun vs H Q E h => ?_) (fun cdv A outer s H vs Q E hr h => ?_), hm, F.kp, (F.binds fun _ _ _ _ _ _ us hl => match us, hl with | [_, _], _ => rfl), .nil, F.binds fun _ _ _ _ _ _ us hl => match us, hl with | [_, _], _ => rfl⟩
  · obtain ⟨a, ns, k, rfl, hS, q⟩ := h
    rfl
  · obtain ⟨a, ns, k, rfl, hS, q⟩ := h
    have nd := sc__law_cell.nd
    refine ⟨_, (pss_cons (ps_if (pt_cmpR op_lt (pv 1) (pe_callB call_len_seq rfl z_len bt_len (pa_cons (pv 0) pa_nil)) (nomark _)) (pss_one (ps_ret (pe_ix ix_seq (pv 0) (pv 1) (fun _ _ => rfl)))) pss_nil)
      (pss_one (ps_ret pe_int))), ?_⟩
    refine ⟨_, rfl, _, rfl, a, _, rfl, .inl hS, _, _, rfl, rfl, _, rfl, ?_⟩
    rw [List.length_map]
    refine dec2 (fun h => ?_) (fun h => ?_)
    · refine ⟨_, rfl, _, rfl, .inl ⟨a, _, k, .int (ns.getD k 0), rfl, rfl, hS, atI_nat ?_, q⟩⟩
      have hk : k < ns.length := by omega
      rw [List.getElem?_map, List.getElem?_eq_getElem hk]
      simp [List.getD, hk]
    · have hk : ns.length ≤ k := by omega
      have e : ns.getD k 0 = 0 := by simp [List.getD, hk]
      rw [e] at q
      exact q
theorem sc__law_whole : FnScope ["_law_found"] ["_law_found"] (defScope s__law_whole) := ⟨rfl, rfl, rfl, by decide +kernel, rfl, by decide +kernel, by decide +kernel⟩
theorem ok__law_whole (D : Def K mg "_law_whole" s__law_whole .none) (z_isinstance : mg "isinstance" = none) (z_int : mg "int" = none) (z_bool : mg "bool" = none) (q_ib : PySem.W.kitOne K (.type "int") (.type "bool") = some false) : Cal P w K mg base CX0 cm 1 "_law_whole" ["_law_found"] [] spWhole := by
  obtain ⟨f, fd, F, hm⟩ := D
  refine ⟨f, fd, _, F.ok sc__law_whole (fun vs H Q E h => ?_) (fun cdv A outer s H vs Q E hr h => ?_), hm, F.kp, (F.binds fun _ _ _ _ _ _ us hl => match us, hl with | [_], _ => rfl), .nil, F.binds fun _ _ _ _ _ _ us hl => match us, hl with | [_], _ => rfl⟩
  · obtain ⟨i, rfl, q⟩ := h
    rfl
  · obtain ⟨i, rfl, q⟩ := h
    have nd := sc__law_whole.nd
    refine ⟨_, (pss_one (ps_ret (pe_and (pe_callB call_is rfl z_isinstance bt_isinstance (pa_cons (pv 0) (pa_cons (pe_bltn (v := .ty "int") rfl z_int bt_int rfl) pa_nil))) (pe_one (pe_not (pe_callB call_is rfl z_isinstance bt_isinstance (pa_cons (pv 0) (pa_cons (pe_bltn (v := .ty "bool") rfl z_bool bt_bool rfl) pa_nil)))))))), ?_⟩
    refine ⟨_, rfl, _, _, _, _, _, rfl, .of (.int i), rfl, rfl, true, rfl, iteT ?_⟩
    exact ⟨_, rfl, _, _, _, _, _, rfl, .of (.int i), rfl, q_ib, false, rfl, q⟩
theorem sc__law_divisor : FnScope ["_law_one", "_law_other_here", "_law_rest"] ["_law_one", "_law_other_here"] (defScope s__law_divisor) := ⟨rfl, rfl, rfl, by decide +kernel, rfl, by decide +kernel, by decide +kernel⟩
theorem ok__law_divisor (D : Def K mg "_law_divisor" s__law_divisor .none) : Cal P w K mg base CX0 cm 1 "_law_divisor" ["_law_one", "_law_other_here"] [] spG0 := by
  obtain ⟨f, fd, F, hm⟩ := D
  refine ⟨f, fd, _, F.ok sc__law_divisor (fun vs H Q E h => ?_) (fun cdv A outer s H vs Q E hr h => ?_), hm, F.kp, (F.binds fun _ _ _ _ _ _ us hl => match us, hl with | [_, _], _ => rfl), .nil, F.binds fun _ _ _ _ _ _ us hl => match us, hl with | [_, _], _ => rfl⟩
  · obtain ⟨a, b, rfl, ha, hb, q⟩ := h
    rfl
  · obtain ⟨a, b, rfl, ha, hb, q⟩ := h
    have nd := sc__law_divisor.nd
    refine ⟨_, (pss_cons (ps_while PassesOwn.never (pt_cmpR op_gt (pv 1) pe_int (nomark _)) (pss_cons (ps_set (i := 2) nd rfl (Or.inl rfl) (pe_op op_mod (pv 0) (pv 1)))
      (pss_cons (ps_set (i := 0) nd rfl (Or.inl rfl) (pv 1))
      (pss_one (ps_set (i := 1) nd rfl (Or.inl rfl) (pv 2))))))
      (pss_one (ps_ret (pv 0)))), ?_⟩
    refine while_by (fun σ H' => ∃ (x y : Int) (r : Option V), σ = [some (.int x), some (.int y), r] ∧ H' = H ∧ 0 ≤ x ∧ 0 ≤ y ∧ N11.gF x y = N11.gF a b) (fun σ _ => match σ with | [_, some (.int y), _] => y.toNat | _ => 0)
      ⟨_, _, none, rfl, rfl, ha, hb, rfl⟩ ?_ ?_
    · rintro σ H1 ⟨x, y, r, rfl, rfl, hx, hy, hg⟩
      refine ⟨_, rfl, _, _, rfl, rfl, _, rfl, ?_⟩
      refine dec2 (fun h => ?_) (fun h => ?_)
      · have hy0 : 0 < y := by omega
        refine ⟨_, rfl, _, rfl, _, _, rfl, rfl, hy0, _, rfl, _, rfl, ⟨y, x % y, _, rfl, rfl, by omega, Int.emod_nonneg x (by omega), ?_⟩, ?_⟩
        · rw [N11.g_turnE hx hy0]
          exact hg
        · have := Int.emod_lt_of_pos x hy0
          have := Int.emod_nonneg x (show y ≠ 0 by omega)
          show (x % y).toNat < y.toNat
          omega
      · have hy0 : y = 0 := by omega
        subst hy0
        rw [← N11.g_end hg hx] at q
        exact ⟨_, rfl, q⟩
    · intro σ H1 Q1 Q2 hq z
      obtain ⟨v, e, i, j, e1, e2, k, e3, z⟩ := z
      exact ⟨v, e, i, j, e1, e2, k, e3, hq _ _ z⟩
def spTop : Sp := fun vs H Q _ => ∃ c : Int, vs = [.int c] ∧ ∀ t : Int, t ≤ 10 ^ 9 → -5 ≤ t → Q (.int t) H
theorem m9 (x : Int) : 1 ≤ 1 + x % (10 : Int) ^ (9 : Int).toNat ∧ 1 + x % (10 : Int) ^ (9 : Int).toNat ≤ 10 ^ 9 := by
  show 1 ≤ 1 + x % (10 : Int) ^ 9 ∧ 1 + x % (10 : Int) ^ 9 ≤ 10 ^ 9
  omega
def spOther (C1 C2 C3 : Addr) : Sp := fun vs H Q _ => ∃ (a C : Addr) (dx : Option Addr), vs = [.ref a] ∧ (C = C1 ∨ C = C2 ∨ C = C3) ∧ H a = some (excO a (.ref C) dx) ∧ ∀ H', Same H H' → Q (.bl false) H'
def spNamed (C1 C2 : Addr) : Sp := fun vs H Q _ => ∃ (a C e : Addr) (c : Str) (dy : Int), vs = [.ref a, .str c, .int dy] ∧ (C = C1 ∨ C = C2) ∧ H a = some (excO a (.ref C) (some e)) ∧ H e = some (.xd (f2 (.str c) (.int dy))) ∧ Q (.bl true) H
def spDue : Sp := fun vs H Q _ => ∃ (rl : Addr) (t c : Str) (dy : Int) (W : List Wd), vs = [.ref rl, .str t, .str c, .int dy] ∧ H rl = some (.lst (rfW W)) ∧ WdL H W ∧ (c = t → ∀ r H', Same H H' → H' r = some (.tup [.int 1, .int 1]) → Q (.ref r) H') ∧
  (c ≠ t → best c dy W = none → ∀ H', Same H H' → Q .non H') ∧ (c ≠ t → ∀ z, best c dy W = some z → ∀ r H', Same H H' → H' r = some (.tup [.int z.2.2.2.1, .int z.2.2.2.2.1]) → Q (.ref r) H')
structure Ss (K : PySem.W.Frag) (C : Addr) (H : Hp) (p d rl : Addr) (t : Str) (W : List Wd) : Prop where
  ra : RatesAt K C H p d t (kvW W)
  rl : H rl = some (.lst (rfW W))
  ro : WdL H W
  dn : ∀ z ∈ W, 0 ≤ z.2.2.1
  ln : W.length ≤ 60
theorem RatesAt.same {K : PySem.W.Frag} {C : Addr} {H H' : Hp} {p d : Addr} {t : Str} {kvs : List (List Key × V)} (R : RatesAt K C H p d t kvs) (e : Same H H') : RatesAt K C H' p d t kvs := by
  obtain ⟨⟨dx, fs, hp, r⟩, hd, hln, hks⟩ := R
  exact ⟨⟨dx, fs, e _ _ hp, r⟩, e _ _ hd, hln, hks⟩
theorem Ss.same {K : PySem.W.Frag} {C : Addr} {H H' : Hp} {p d rl : Addr} {t : Str} {W : List Wd} (s : Ss K C H p d rl t W) (e : Same H H') : Ss K C H' p d rl t W := ⟨s.ra.same e, e _ _ s.rl, s.ro.same e, s.dn, s.ln⟩
def spAsk (K : PySem.W.Frag) (C : Addr) : Sp := fun vs H Q _ => ∃ (p d rl : Addr) (t c : Str) (dy : Int) (W : List Wd), vs = [.ref p, .ref rl, .str t, .str c, .int dy] ∧ Ss K C H p d rl t W ∧ ∀ H', Same H H' → Q (.bl true) H'
theorem day_max {c : Str} {dy m : Int} {W : List Wd} {z : Wd} (h1 : z.2.2.1 ∈ daysOf c dy (kvW W)) (h2 : ∀ a ∈ daysOf c dy (kvW W), a ≤ z.2.2.1) (hm : m ∈ daysOf c dy (kvW W)) (hmx : ∀ a ∈ daysOf c dy (kvW W), a ≤ m) : m = z.2.2.1 := by
  have := h2 m hm
  have := hmx _ h1
  omega
def tellO (ta : Addr) (c : Str) (dy tp : Int) (ob : Option Int) (H : Hp) : Prop := H ta = some (.tup [.str c, .int dy, .int tp, bV ob])
def spToldE (K : PySem.W.Frag) (C : Addr) : Sp := fun vs H Q _ => ∃ (p d rl ta : Addr) (t c : Str) (dy tp : Int) (ob : Option Int) (W : List Wd), vs = [.ref p, .ref rl, .str t, .ref ta] ∧ Ss K C H p d rl t W ∧ tellO ta c dy tp ob H ∧ ob.getD 1 ≤ 2 ^ 200 ∧
  ((Bad tp ob ∨ tws c t dy W = true) → ∀ H', Same H H' → Q (.bl true) H') ∧
  (¬ Bad tp ob → tws c t dy W = false → ∀ r H', H' r = some (.tup [.int (Int.fdiv tp (N11.dF tp (ob.getD 1))), .int (Int.fdiv (ob.getD 1) (N11.dF tp (ob.getD 1)))]) → RatesAt K C H' p d t (kvW W ++ [([Sum.inr c, Sum.inl dy], .ref r)]) → (∀ b o, H b = some o → b ≠ d → H' b = some o) → Q (.bl true) H')
def spRow : Sp := fun vs H Q _ => ∃ (rl ta : Addr) (t c : Str) (dy tp : Int) (ob : Option Int) (W : List Wd), vs = [.ref rl, .str t, .ref ta] ∧ H rl = some (.lst (rfW W)) ∧ WdL H W ∧ W.length ≤ 60 ∧ tellO ta c dy tp ob H ∧ ob.getD 1 ≤ 2 ^ 200 ∧ tp ≤ 2 ^ 200 ∧
  ((Bad tp ob ∨ tws c t dy W = true) → Q (.ref rl) H) ∧
  (¬ Bad tp ob → tws c t dy W = false → ∀ n a H', Same H H' → H n = none → H' a = some (.tup [.str c, .int dy, .int (Int.fdiv tp (N11.dF tp (ob.getD 1))), .int (Int.fdiv (ob.getD 1) (N11.dF tp (ob.getD 1)))]) → H' n = some (.lst (rfW W ++ [.ref a])) → Q (.ref n) H')
def spAll (K : PySem.W.Frag) (C : Addr) : Sp := fun vs H Q _ => ∃ (p d rl : Addr) (t : Str) (b : Int) (W : List Wd), vs = [.ref p, .ref rl, .str t, .int b] ∧ Ss K C H p d rl t W ∧ ∀ H', Same H H' → Q (.bl true) H'
theorem sc__law_top : FnScope ["_law_cell_here"] ["_law_cell_here"] (defScope s__law_top) := ⟨rfl, rfl, rfl, by decide +kernel, rfl, by decide +kernel, by decide +kernel⟩
theorem ok__law_top (D : Def K mg "_law_top" s__law_top .none) : Cal P w K mg base CX0 cm 1 "_law_top" ["_law_cell_here"] [] spTop := by
  obtain ⟨f, fd, F, hm⟩ := D
  refine ⟨f, fd, _, F.ok sc__law_top (fun vs H Q E h => ?_) (fun cdv A outer s H vs Q E hr h => ?_), hm, F.kp, (F.binds fun _ _ _ _ _ _ us hl => match us, hl with | [_], _ => rfl), .nil, F.binds fun _ _ _ _ _ _ us hl => match us, hl with | [_], _ => rfl⟩
  · obtain ⟨c, rfl, q⟩ := h
    rfl
  · obtain ⟨c, rfl, q⟩ := h
    have nd := sc__law_top.nd
    refine ⟨_, (pss_cons (ps_if (pt_cmpR op_eq (pe_op op_mod (pv 0) pe_int) pe_int (nomark _)) (pss_one (ps_ret (pe_op op_sub pe_int (pe_op op_mod (pe_op op_fdiv (pv 0) pe_int) pe_int)))) pss_nil)
      (pss_cons (ps_if (pt_cmpR op_eq (pe_op op_mod (pv 0) pe_int) pe_int (nomark _)) (pss_one (ps_ret (pe_op op_add pe_int (pe_op op_mod (pe_op op_fdiv (pv 0) pe_int) pe_int)))) pss_nil)
      (pss_one (ps_ret (pe_op op_add pe_int (pe_op op_mod (pe_op op_mulB (pe_op op_fdiv (pv 0) pe_int) pe_int) (pe_op op_pow pe_int pe_int))))))), ?_⟩
    refine ⟨_, rfl, _, _, rfl, rfl, (by show (0 : Int) < 9; decide), rfl, _, rfl, ?_⟩
    refine dec2 (fun h => ⟨_, rfl, _, _, rfl, rfl, ⟨by decide, by decide⟩, _, _, rfl, rfl, (by show (0 : Int) < 3; decide), _, _, rfl, rfl, q _ (by omega) (by omega)⟩) (fun h => ?_)
    refine ⟨_, rfl, _, _, rfl, rfl, (by show (0 : Int) < 2; decide), rfl, _, rfl, ?_⟩
    refine dec2 (fun h => ⟨_, rfl, _, _, rfl, rfl, ⟨by decide, by decide⟩, _, _, rfl, rfl, (by show (0 : Int) < 6; decide), _, _, rfl, rfl, q _ (by omega) (by omega)⟩) (fun h => ?_)
    exact ⟨_, rfl, _, _, rfl, rfl, ⟨by decide, by decide⟩, _, _, rfl, rfl, .of_right (intBits_le_64 (by decide) (by decide)), _, _, rfl, rfl, ⟨by decide, by decide, by decide⟩, _, _, rfl, rfl, (by show (0 : Int) < 10 ^ 9; decide), _, _, rfl, rfl, q _ (m9 _).2 (by have := (m9 (c / 9 * 48271)).1; omega)⟩
theorem sc__law_other : FnScope ["_law_e"] ["_law_e"] (defScope s__law_other) := ⟨rfl, rfl, rfl, by decide +kernel, rfl, by decide +kernel, by decide +kernel⟩
theorem ok__law_other (D : Def K mg "_law_other" s__law_other .none) {C_BadAmount C_BadPaper C_Broken C_Closed C_NoAccount C_NoDeed C_NoFirm C_NoGoods C_NoNumber C_NoRate C_NoRow C_NoSister C_Ringed C_Singular C_TooFew C_Twice C_Unbalanced C_Unheld : Addr} (z_isinstance : mg "isinstance" = none) (z_ValueError : mg "ValueError" = none) (m_Unbalanced : mg "Unbalanced" = some (.ref C_Unbalanced)) (m_Closed : mg "Closed" = some (.ref C_Closed)) (m_BadPaper : mg "BadPaper" = some (.ref C_BadPaper)) (m_NoFirm : mg "NoFirm" = some (.ref C_NoFirm)) (m_BadAmount : mg "BadAmount" = some (.ref C_BadAmount)) (m_Unheld : mg "Unheld" = some (.ref C_Unheld)) (m_Ringed : mg "Ringed" = some (.ref C_Ringed)) (m_Singular : mg "Singular" = some (.ref C_Singular)) (m_NoSister : mg "NoSister" = some (.ref C_NoSister)) (m_NoAccount : mg "NoAccount" = some (.ref C_NoAccount)) (m_NoGoods : mg "NoGoods" = some (.ref C_NoGoods)) (m_TooFew : mg "TooFew" = some (.ref C_TooFew)) (m_NoDeed : mg "NoDeed" = some (.ref C_NoDeed)) (m_Broken : mg "Broken" = some (.ref C_Broken)) (m_NoRow : mg "NoRow" = some (.ref C_NoRow)) (X_NoNumber : XCls K C_NoNumber) (X_NoRate : XCls K C_NoRate) (X_Twice : XCls K C_Twice) (q_o1NoNumber : PySem.W.kitAny K (.ref C_NoNumber) [.ref C_Unbalanced, .ref C_Closed, .ref C_BadPaper, .ref C_NoFirm, .ref C_BadAmount, .ref C_Unheld, .ref C_Ringed, .ref C_Singular] = some false) (q_o2NoNumber : PySem.W.kitAny K (.ref C_NoNumber) [.ref C_NoSister, .ref C_NoAccount, .ref C_NoGoods, .ref C_TooFew, .ref C_NoDeed, .ref C_Broken, .ref C_NoRow] = some false) (q_vNoNumber : PySem.W.kitOne K (.ref C_NoNumber) (.type "ValueError") = some true) (q_o1NoRate : PySem.W.kitAny K (.ref C_NoRate) [.ref C_Unbalanced, .ref C_Closed, .ref C_BadPaper, .ref C_NoFirm, .ref C_BadAmount, .ref C_Unheld, .ref C_Ringed, .ref C_Singular] = some false) (q_o2NoRate : PySem.W.kitAny K (.ref C_NoRate) [.ref C_NoSister, .ref C_NoAccount, .ref C_NoGoods, .ref C_TooFew, .ref C_NoDeed, .ref C_Broken, .ref C_NoRow] = some false) (q_vNoRate : PySem.W.kitOne K (.ref C_NoRate) (.type "ValueError") = some true) (q_o1Twice : PySem.W.kitAny K (.ref C_Twice) [.ref C_Unbalanced, .ref C_Closed, .ref C_BadPaper, .ref C_NoFirm, .ref C_BadAmount, .ref C_Unheld, .ref C_Ringed, .ref C_Singular] = some false) (q_o2Twice : PySem.W.kitAny K (.ref C_Twice) [.ref C_NoSister, .ref C_NoAccount, .ref C_NoGoods, .ref C_TooFew, .ref C_NoDeed, .ref C_Broken, .ref C_NoRow] = some false) (q_vTwice : PySem.W.kitOne K (.ref C_Twice) (.type "ValueError") = some true) : Cal P w K mg base CX0 cm 1 "_law_other" ["_law_e"] [] (spOther C_NoNumber C_NoRate C_Twice) := by
  obtain ⟨f, fd, F, hm⟩ := D
  refine ⟨f, fd, _, F.ok sc__law_other (fun vs H Q E h => ?_) (fun cdv A outer s H vs Q E hr h => ?_), hm, F.kp, (F.binds fun _ _ _ _ _ _ us hl => match us, hl with | [_], _ => rfl), .nil, F.binds fun _ _ _ _ _ _ us hl => match us, hl with | [_], _ => rfl⟩
  · obtain ⟨a, C, dx, rfl, hC, ha, q⟩ := h
    rfl
  · obtain ⟨a, C, dx, rfl, hC, ha, q⟩ := h
    have nd := sc__law_other.nd
    refine ⟨_, (pss_cons (ps_if (pt_val (pe_callB call_isT_exc rfl z_isinstance bt_isinstance (pa_cons (pv 0) (pa_cons (pe_tup (pa_cons (pe_glob (v := .ref C_Unbalanced) rfl m_Unbalanced rfl) (pa_cons (pe_glob (v := .ref C_Closed) rfl m_Closed rfl) (pa_cons (pe_glob (v := .ref C_BadPaper) rfl m_BadPaper rfl) (pa_cons (pe_glob (v := .ref C_NoFirm) rfl m_NoFirm rfl) (pa_cons (pe_glob (v := .ref C_BadAmount) rfl m_BadAmount rfl) (pa_cons (pe_glob (v := .ref C_Unheld) rfl m_Unheld rfl) (pa_cons (pe_glob (v := .ref C_Ringed) rfl m_Ringed rfl) (pa_cons (pe_glob (v := .ref C_Singular) rfl m_Singular rfl) pa_nil))))))))) pa_nil)))) (pss_one (ps_ret pe_bl)) pss_nil)
      (pss_one (ps_ret (pe_or (pe_callB call_isT_exc rfl z_isinstance bt_isinstance (pa_cons (pv 0) (pa_cons (pe_tup (pa_cons (pe_glob (v := .ref C_NoSister) rfl m_NoSister rfl) (pa_cons (pe_glob (v := .ref C_NoAccount) rfl m_NoAccount rfl) (pa_cons (pe_glob (v := .ref C_NoGoods) rfl m_NoGoods rfl) (pa_cons (pe_glob (v := .ref C_TooFew) rfl m_TooFew rfl) (pa_cons (pe_glob (v := .ref C_NoDeed) rfl m_NoDeed rfl) (pa_cons (pe_glob (v := .ref C_Broken) rfl m_Broken rfl) (pa_cons (pe_glob (v := .ref C_NoRow) rfl m_NoRow rfl) pa_nil)))))))) pa_nil))) (pe_one (pe_not (pe_callB call_is rfl z_isinstance bt_isinstance (pa_cons (pv 0) (pa_cons (pe_bltn (v := .ty "ValueError") rfl z_ValueError bt_ValueError rfl) pa_nil))))))))), ?_⟩
    rcases hC with rfl | rfl | rfl
    · refine ⟨_, rfl, (by show 8 ≤ sizeLine; decide), fun p hp => ⟨a, _, dx, p, _, _, _, rfl, ?_, X_NoNumber, upd_same, rfl, q_o1NoNumber, false, rfl, iteF ?_⟩⟩
      · rw [upd_ne (ne_of_none ha hp)]
        exact ha
      have f1 := same_upd (o := .tup [.ref C_Unbalanced, .ref C_Closed, .ref C_BadPaper, .ref C_NoFirm, .ref C_BadAmount, .ref C_Unheld, .ref C_Ringed, .ref C_Singular]) hp
      refine ⟨_, rfl, (by show 7 ≤ sizeLine; decide), fun p2 hp2 => ⟨a, _, dx, p2, _, _, _, rfl, ?_, X_NoNumber, upd_same, rfl, q_o2NoNumber, false, rfl, iteF ?_⟩⟩
      · rw [upd_ne (ne_of_none (f1 _ _ ha) hp2)]
        exact f1 _ _ ha
      have f2 := f1.trans (same_upd (o := .tup [.ref C_NoSister, .ref C_NoAccount, .ref C_NoGoods, .ref C_TooFew, .ref C_NoDeed, .ref C_Broken, .ref C_NoRow]) hp2)
      exact ⟨_, rfl, _, _, _, _, _, rfl, .exc (f2 _ _ ha) X_NoNumber, rfl, q_vNoNumber, true, rfl, q _ f2⟩
    · refine ⟨_, rfl, (by show 8 ≤ sizeLine; decide), fun p hp => ⟨a, _, dx, p, _, _, _, rfl, ?_, X_NoRate, upd_same, rfl, q_o1NoRate, false, rfl, iteF ?_⟩⟩
      · rw [upd_ne (ne_of_none ha hp)]
        exact ha
      have f1 := same_upd (o := .tup [.ref C_Unbalanced, .ref C_Closed, .ref C_BadPaper, .ref C_NoFirm, .ref C_BadAmount, .ref C_Unheld, .ref C_Ringed, .ref C_Singular]) hp
      refine ⟨_, rfl, (by show 7 ≤ sizeLine; decide), fun p2 hp2 => ⟨a, _, dx, p2, _, _, _, rfl, ?_, X_NoRate, upd_same, rfl, q_o2NoRate, false, rfl, iteF ?_⟩⟩
      · rw [upd_ne (ne_of_none (f1 _ _ ha) hp2)]
        exact f1 _ _ ha
      have f2 := f1.trans (same_upd (o := .tup [.ref C_NoSister, .ref C_NoAccount, .ref C_NoGoods, .ref C_TooFew, .ref C_NoDeed, .ref C_Broken, .ref C_NoRow]) hp2)
      exact ⟨_, rfl, _, _, _, _, _, rfl, .exc (f2 _ _ ha) X_NoRate, rfl, q_vNoRate, true, rfl, q _ f2⟩
    · refine ⟨_, rfl, (by show 8 ≤ sizeLine; decide), fun p hp => ⟨a, _, dx, p, _, _, _, rfl, ?_, X_Twice, upd_same, rfl, q_o1Twice, false, rfl, iteF ?_⟩⟩
      · rw [upd_ne (ne_of_none ha hp)]
        exact ha
      have f1 := same_upd (o := .tup [.ref C_Unbalanced, .ref C_Closed, .ref C_BadPaper, .ref C_NoFirm, .ref C_BadAmount, .ref C_Unheld, .ref C_Ringed, .ref C_Singular]) hp
      refine ⟨_, rfl, (by show 7 ≤ sizeLine; decide), fun p2 hp2 => ⟨a, _, dx, p2, _, _, _, rfl, ?_, X_Twice, upd_same, rfl, q_o2Twice, false, rfl, iteF ?_⟩⟩
      · rw [upd_ne (ne_of_none (f1 _ _ ha) hp2)]
        exact f1 _ _ ha
      have f2 := f1.trans (same_upd (o := .tup [.ref C_NoSister, .ref C_NoAccount, .ref C_NoGoods, .ref C_TooFew, .ref C_NoDeed, .ref C_Broken, .ref C_NoRow]) hp2)
      exact ⟨_, rfl, _, _, _, _, _, rfl, .exc (f2 _ _ ha) X_Twice, rfl, q_vTwice, true, rfl, q _ f2⟩
theorem sc__law_named : FnScope ["_law_e", "_law_coin", "_law_day"] ["_law_e", "_law_coin", "_law_day"] (defScope s__law_named) := ⟨rfl, rfl, rfl, by decide +kernel, rfl, by decide +kernel, by decide +kernel⟩
theorem ok__law_named (D : Def K mg "_law_named" s__law_named .none) {C_NoRate C_Twice : Addr} (c__law_whole : Cal P w K mg base CX0 cm 1 "_law_whole" ["_law_found"] [] spWhole) (z_isinstance : mg "isinstance" = none) (z_str : mg "str" = none) (X_NoRate : XCls K C_NoRate) (X_Twice : XCls K C_Twice) (n_rcoin : NoAttr K C_NoRate "coin") (n_rday : NoAttr K C_NoRate "day") (n_tcoin : NoAttr K C_Twice "coin") (n_tday : NoAttr K C_Twice "day") : Cal P w K mg base CX0 cm 2 "_law_named" ["_law_e", "_law_coin", "_law_day"] [] (spNamed C_NoRate C_Twice) := by
  obtain ⟨f, fd, F, hm⟩ := D
  obtain ⟨f__law_whole, fd__law_whole, d__law_whole, G__law_whole, m__law_whole, k__law_whole, b__law_whole, v__law_whole, b__law_whole1⟩ := c__law_whole
  refine ⟨f, fd, _, F.ok sc__law_named (fun vs H Q E h => ?_) (fun cdv A outer s H vs Q E hr h => ?_), hm, F.kp, (F.binds fun _ _ _ _ _ _ us hl => match us, hl with | [_, _, _], _ => rfl), .nil, F.binds fun _ _ _ _ _ _ us hl => match us, hl with | [_, _, _], _ => rfl⟩
  · obtain ⟨a, C, e, c, dy, rfl, hC, ha, he, q⟩ := h
    rfl
  · obtain ⟨a, C, e, c, dy, rfl, hC, ha, he, q⟩ := h
    have nd := sc__law_named.nd
    refine ⟨_, (pss_one (ps_ret (pe_and (pe_callB call_is rfl z_isinstance bt_isinstance (pa_cons (pe_fldX (pv 0) rfl) (pa_cons (pe_bltn (v := .ty "str") rfl z_str bt_str rfl) pa_nil))) (pe_and (pe_cmpR op_eq (pe_fldX (pv 0) rfl) (pv 1) (nomark _)) (pe_and (pe_call G__law_whole (hr.mono (by decide)) rfl m__law_whole k__law_whole b__law_whole Paired.nil pass0 (pa_cons (pe_fldX (pv 0) rfl) pa_nil)) (pe_one (pe_cmpR op_eq (pe_fldX (pv 0) rfl) (pv 2) (nomark _)))))))), ?_⟩
    rcases hC with rfl | rfl
    · refine ⟨_, rfl, a, _, e, _, _, rfl, ha, he, X_NoRate, n_rcoin, f2_coin _ _, _, _, _, _, _, rfl, .of (.str _), rfl, rfl, true, rfl, iteT ?_⟩
      refine ⟨_, rfl, a, _, e, _, _, rfl, ha, he, X_NoRate, n_rcoin, f2_coin _ _, _, rfl, rfl, _, rfl, decT rfl ?_⟩
      refine ⟨_, rfl, a, _, e, _, _, rfl, ha, he, X_NoRate, n_rday, f2_day _ _, _, rfl, true, rfl, iteT ?_⟩
      refine ⟨_, rfl, a, _, e, _, _, rfl, ha, he, X_NoRate, n_rday, f2_day _ _, _, rfl, rfl, ?_⟩
      rw [decide_eq_true rfl]
      exact q
    · refine ⟨_, rfl, a, _, e, _, _, rfl, ha, he, X_Twice, n_tcoin, f2_coin _ _, _, _, _, _, _, rfl, .of (.str _), rfl, rfl, true, rfl, iteT ?_⟩
      refine ⟨_, rfl, a, _, e, _, _, rfl, ha, he, X_Twice, n_tcoin, f2_coin _ _, _, rfl, rfl, _, rfl, decT rfl ?_⟩
      refine ⟨_, rfl, a, _, e, _, _, rfl, ha, he, X_Twice, n_tday, f2_day _ _, _, rfl, true, rfl, iteT ?_⟩
      refine ⟨_, rfl, a, _, e, _, _, rfl, ha, he, X_Twice, n_tday, f2_day _ _, _, rfl, rfl, ?_⟩
      rw [decide_eq_true rfl]
      exact q
theorem sc__law_due : FnScope ["_law_rows", "_law_told_here", "_law_coin", "_law_day", "_law_best", "_law_found", "_law_row_here"] ["_law_rows", "_law_told_here", "_law_coin", "_law_day"] (defScope s__law_due) := ⟨rfl, rfl, rfl, by decide +kernel, rfl, by decide +kernel, by decide +kernel⟩
theorem ok__law_due (D : Def K mg "_law_due" s__law_due .none) : Cal P w K mg base CX0 true 1 "_law_due" ["_law_rows", "_law_told_here", "_law_coin", "_law_day"] [] spDue := by
  obtain ⟨f, fd, F, hm⟩ := D
  refine ⟨f, fd, _, F.ok sc__law_due (fun vs H Q E h => ?_) (fun cdv A outer s H vs Q E hr h => ?_), hm, F.kp, (F.binds fun _ _ _ _ _ _ us hl => match us, hl with | [_, _, _, _], _ => rfl), .nil, F.binds fun _ _ _ _ _ _ us hl => match us, hl with | [_, _, _, _], _ => rfl⟩
  · obtain ⟨rl, t, c, dy, W, rfl, hl, hW, q1, q2, q3⟩ := h
    rfl
  · obtain ⟨rl, t, c, dy, W, rfl, hl, hW, q1, q2, q3⟩ := h
    have nd := sc__law_due.nd
    refine ⟨_, (pss_cons (ps_if (pt_cmpR op_eq (pv 2) (pv 1) (nomark _)) (pss_one (ps_ret (pe_tup (pa_cons pe_int (pa_cons pe_int pa_nil))))) pss_nil)
      (pss_cons (ps_set (i := 4) nd rfl (Or.inl rfl) (pe_un un_neg pe_int))
      (pss_cons (ps_set (i := 5) nd rfl (Or.inl rfl) pe_non)
      (pss_cons (ps_for PassesOwn.never rfl (pi_list (pv 0)) (pg_name (i := 6) nd rfl (Or.inl rfl)) (pss_one (ps_if (PW.pt (pw_and (pt_cmpR op_eq (pe_ix ix_seq (pv 6) pe_int (fun _ _ => rfl)) (pv 2) (nomark _)) (pw_and (pt_cmpR op_lt (pv 4) (pe_ix ix_seq (pv 6) pe_int (fun _ _ => rfl)) (nomark _)) (pw_and1 (pt_cmpR op_le (pe_ix ix_seq (pv 6) pe_int (fun _ _ => rfl)) (pv 3) (nomark _)))))) (pss_cons (ps_set (i := 4) nd rfl (Or.inl rfl) (pe_ix ix_seq (pv 6) pe_int (fun _ _ => rfl)))
      (pss_one (ps_set (i := 5) nd rfl (Or.inl rfl) (pe_tup (pa_cons (pe_ix ix_seq (pv 6) pe_int (fun _ _ => rfl)) (pa_cons (pe_ix ix_seq (pv 6) pe_int (fun _ _ => rfl)) pa_nil)))))) pss_nil)))
      (pss_one (ps_ret (pv 5))))))), ?_⟩
    have hline : 600 ≤ sizeLine := by decide
    refine ⟨_, rfl, _, rfl, rfl, _, rfl, ?_⟩
    refine dec2 (fun h => ⟨(by show 2 ≤ sizeLine; decide), fun r hr => q1 (V.str.inj h) r _ (same_upd hr) upd_same⟩) (fun h => ?_)
    have hct : c ≠ t := fun z => h (congrArg V.str z)
    refine ⟨_, rfl, _, rfl, rl, rfl, ⟨_, SqL.of hl⟩, ?_⟩
    refine for_list (xs := rfW W) (fun i σ H' => ∃ (fv : V) (o : Option V), σ = [some (.ref rl), some (.str t), some (.str c), some (.int dy), some (.int (((best c dy (W.take i)).map (·.2.2.1)).getD (-1))), some fv, o] ∧ Same H H' ∧ (best c dy (W.take i) = none → fv = .non) ∧ (∀ z, best c dy (W.take i) = some z → ∃ r, fv = .ref r ∧ H' r = some (.tup [.int z.2.2.2.1, .int z.2.2.2.2.1]))) ⟨.non, _, rfl, Same.refl _, fun _ => rfl, fun z h => nomatch h⟩ ?_ ?_ ?_
    · rintro i σ H1 hi ⟨fv, o, rfl, e, _⟩
      exact SqL.of (e _ _ hl)
    · rintro i x σ H1 hx ⟨fv, o, rfl, e, n1, n2⟩
      obtain ⟨z, hz, rfl⟩ := rfW_at hx
      have hT := SqT.of (K := K) ((hW.same e) z (List.mem_of_getElem? hz)).1
      have nx := best_nx (c := c) (dy := dy) hz
      have no : ¬ (z.2.1 = c ∧ ((best c dy (W.take i)).map (·.2.2.1)).getD (-1) < z.2.2.1 ∧ z.2.2.1 ≤ dy) → best c dy (W.take (i + 1)) = best c dy (W.take i) := fun h => by
        rw [nx]
        exact if_neg h
      refine ⟨_, rfl, .inr (.inl ⟨z.1, _, 0, _, rfl, rfl, hT, rfl, _, rfl, rfl, _, rfl, ?_⟩)⟩
      refine dec2 (fun h1 => ?_) (fun h1 => iteF ?_)
      · refine ⟨_, rfl, _, rfl, .inr (.inl ⟨z.1, _, 1, _, rfl, rfl, hT, rfl, _, _, rfl, rfl, _, rfl, ?_⟩)⟩
        refine dec2 (fun h2 => ?_) (fun h2 => iteF ?_)
        · refine ⟨_, rfl, .inr (.inl ⟨z.1, _, 1, _, rfl, rfl, hT, rfl, _, rfl, _, _, rfl, rfl, _, rfl, ?_⟩)⟩
          refine dec2 (fun h3 => ?_) (fun h3 => ?_)
          · have yes : best c dy (W.take (i + 1)) = some z := by
              rw [nx]
              exact if_pos ⟨V.str.inj h1, h2, h3⟩
            refine ⟨_, rfl, .inr (.inl ⟨z.1, _, 1, _, rfl, rfl, hT, rfl, ?_⟩)⟩
            refine ⟨_, rfl, .inr (.inl ⟨z.1, _, 2, _, rfl, rfl, hT, rfl, _, rfl, .inr (.inl ⟨z.1, _, 3, _, rfl, rfl, hT, rfl, (by show 2 ≤ sizeLine; decide), fun r hr => ?_⟩)⟩)⟩
            refine ⟨.ref r, some (.ref z.1), ?_, e.trans (same_upd hr), fun w => ?_, fun w hw => ?_⟩
            · first | (rw [yes]; done) | (rw [yes]; rfl)
            · rw [yes] at w
              cases w
            · rw [yes] at hw
              cases hw
              exact ⟨r, rfl, upd_same⟩
          · have nn := no fun w => h3 w.2.2
            refine ⟨fv, some (.ref z.1), ?_, e, ?_, ?_⟩
            · first | (rw [nn]; done) | (rw [nn]; rfl)
            · rw [nn]; exact n1
            · rw [nn]; exact n2
        · have nn := no fun w => h2 w.2.1
          refine ⟨fv, some (.ref z.1), ?_, e, ?_, ?_⟩
          · first | (rw [nn]; done) | (rw [nn]; rfl)
          · rw [nn]; exact n1
          · rw [nn]; exact n2
      · have nn := no fun w => h1 (congrArg V.str w.1)
        refine ⟨fv, some (.ref z.1), ?_, e, ?_, ?_⟩
        · first | (rw [nn]; done) | (rw [nn]; rfl)
        · rw [nn]; exact n1
        · rw [nn]; exact n2
    rintro σ H1 ⟨fv, o, rfl, e, n1, n2⟩
    rw [rfW_len, List.take_length] at n1 n2
    cases hb : best c dy W with
    | none =>
      rw [n1 hb]
      exact ⟨_, rfl, q2 hct hb _ e⟩
    | some z =>
      obtain ⟨r, rfl, hr⟩ := n2 z hb
      exact ⟨_, rfl, q3 hct z hb r _ e hr⟩
theorem sc__law_asked : FnScope ["_law_some", "_law_rows", "_law_told_here", "_law_coin", "_law_day", "_law_due_here", "_law_e", "_law_found"] ["_law_some", "_law_rows", "_law_told_here", "_law_coin", "_law_day"] (defScope s__law_asked) := ⟨rfl, rfl, rfl, by decide +kernel, rfl, by decide +kernel, by decide +kernel⟩
theorem ok__law_asked (D : Def K mg "_law_asked" s__law_asked .none) {C_BooksError C_NoNumber C_NoRate C_Rates C_Twice : Addr} (c__law_due : Cal P w K mg base CX0 true 1 "_law_due" ["_law_rows", "_law_told_here", "_law_coin", "_law_day"] [] spDue) (c_Rates_rate : CalM P w K mg base (CX1 P w) true 3 C_Rates "rate" ["self", "coin", "day"] [] (spRateE K C_Rates C_NoRate)) (c__law_otherF : Cal P w K mg base CX0 false 1 "_law_other" ["_law_e"] [] (spOther C_NoNumber C_NoRate C_Twice)) (c__law_namedF : Cal P w K mg base CX0 false 2 "_law_named" ["_law_e", "_law_coin", "_law_day"] [] (spNamed C_NoRate C_Twice)) (c__law_whole : Cal P w K mg base CX0 true 1 "_law_whole" ["_law_found"] [] spWhole) (z_isinstance : mg "isinstance" = none) (z_tuple : mg "tuple" = none) (z_len : mg "len" = none) (m_BooksError : mg "BooksError" = some (.ref C_BooksError)) (m_NoRate : mg "NoRate" = some (.ref C_NoRate)) (m_NoNumber : mg "NoNumber" = some (.ref C_NoNumber)) (m_Twice : mg "Twice" = some (.ref C_Twice)) (X_NoRate : XCls K C_NoRate) (q_mr : PySem.W.exmOne K (.ref C_NoRate) (.ref C_BooksError) = some true) (q_rr : PySem.W.kitOne K (.ref C_NoRate) (.ref C_NoRate) = some true) (q_rnt : PySem.W.kitAny K (.ref C_NoRate) [.ref C_NoNumber, .ref C_Twice] = some false) (cl_Rates : Cls K C_Rates) : Cal P w K mg base CX0 true 4 "_law_asked" ["_law_some", "_law_rows", "_law_told_here", "_law_coin", "_law_day"] [] (spAsk K C_Rates) := by
  obtain ⟨f, fd, F, hm⟩ := D
  obtain ⟨f__law_due, fd__law_due, d__law_due, G__law_due, m__law_due, k__law_due, b__law_due, v__law_due, b__law_due1⟩ := c__law_due
  obtain ⟨f_Rates_rate, fd_Rates_rate, d_Rates_rate, G_Rates_rate, m_Rates_rate, b_Rates_rate, v_Rates_rate, b_Rates_rate1⟩ := c_Rates_rate
  obtain ⟨f__law_otherF, fd__law_otherF, d__law_otherF, G__law_otherF, m__law_otherF, k__law_otherF, b__law_otherF, v__law_otherF, b__law_otherF1⟩ := c__law_otherF
  obtain ⟨f__law_namedF, fd__law_namedF, d__law_namedF, G__law_namedF, m__law_namedF, k__law_namedF, b__law_namedF, v__law_namedF, b__law_namedF1⟩ := c__law_namedF
  obtain ⟨f__law_whole, fd__law_whole, d__law_whole, G__law_whole, m__law_whole, k__law_whole, b__law_whole, v__law_whole, b__law_whole1⟩ := c__law_whole
  refine ⟨f, fd, _, F.ok sc__law_asked (fun vs H Q E h => ?_) (fun cdv A outer s H vs Q E hr h => ?_), hm, F.kp, (F.binds fun _ _ _ _ _ _ us hl => match us, hl with | [_, _, _, _, _], _ => rfl), .nil, F.binds fun _ _ _ _ _ _ us hl => match us, hl with | [_, _, _, _, _], _ => rfl⟩
  · obtain ⟨p, d, rl, t, c, dy, W, rfl, S, q⟩ := h
    rfl
  · obtain ⟨p, d, rl, t, c, dy, W, rfl, S, q⟩ := h
    have nd := sc__law_asked.nd
    refine ⟨_, (pss_cons (ps_set (i := 5) nd rfl (Or.inl rfl) (pe_call G__law_due (hr.mono (by decide)) rfl m__law_due k__law_due b__law_due Paired.nil pass0 (pa_cons (pv 1) (pa_cons (pv 2) (pa_cons (pv 3) (pa_cons (pv 4) pa_nil))))))
      (pss_cons (ps_try (i := 6) nd rfl rfl rfl rfl rfl m_BooksError (fun pn E' R Ek hpo hxe => (pss_one (ps_set (i := 7) nd rfl (Or.inl rfl) (pe_methR (pv 0) cl_Rates m_Rates_rate G_Rates_rate (hr.mono (by decide)) b_Rates_rate Paired.nil hxe (pa_cons (pv 3) (pa_cons (pv 4) pa_nil)))))) (fun _ => (pss_cons (ps_if (PW.pt (pw_or (pt_cmpR op_notN (pv 5) pe_non (nomark _)) (pw_or (pt_not (pt_val (pe_callB call_isS rfl z_isinstance bt_isinstance (pa_cons (pv 6) (pa_cons (pe_glob (v := .ref C_NoRate) rfl m_NoRate rfl) pa_nil))))) (pw_or (pt_val (pe_callB call_isTS rfl z_isinstance bt_isinstance (pa_cons (pv 6) (pa_cons (pe_tup (pa_cons (pe_glob (v := .ref C_NoNumber) rfl m_NoNumber rfl) (pa_cons (pe_glob (v := .ref C_Twice) rfl m_Twice rfl) pa_nil))) pa_nil)))) (pw_or1 (pt_val (pe_call G__law_otherF (Room.sup (hr.mono (by decide)) _) rfl m__law_otherF k__law_otherF b__law_otherF Paired.nil pass0 (pa_cons (pv 6) pa_nil)))))))) (pss_one (ps_ret pe_bl)) pss_nil)
      (pss_one (ps_ret (pe_call G__law_namedF (Room.sup (hr.mono (by decide)) _) rfl m__law_namedF k__law_namedF b__law_namedF Paired.nil pass0 (pa_cons (pv 6) (pa_cons (pv 3) (pa_cons (pv 4) pa_nil)))))))))
      (pss_cons (ps_if (PW.pt (pw_or (pt_cmpR op_isN (pv 5) pe_non (nomark _)) (pw_or (pt_not (pt_val (pe_callB call_is rfl z_isinstance bt_isinstance (pa_cons (pv 7) (pa_cons (pe_bltn (v := .ty "tuple") rfl z_tuple bt_tuple rfl) pa_nil))))) (pw_or1 (pt_cmpR op_ne (pe_callB call_len_seq rfl z_len bt_len (pa_cons (pv 7) pa_nil)) pe_int (nomark _)))))) (pss_one (ps_ret pe_bl)) pss_nil)
      (pss_one (ps_ret (pe_and (pe_call G__law_whole (hr.mono (by decide)) rfl m__law_whole k__law_whole b__law_whole Paired.nil pass0 (pa_cons (pe_ix ix_seq (pv 7) pe_int (fun _ _ => rfl)) pa_nil)) (pe_and (pe_call G__law_whole (hr.mono (by decide)) rfl m__law_whole k__law_whole b__law_whole Paired.nil pass0 (pa_cons (pe_ix ix_seq (pv 7) pe_int (fun _ _ => rfl)) pa_nil)) (pe_one (pe_cmpR (op_eqO hr) (pv 7) (pv 5) (nomark _)))))))))), ?_⟩
    obtain ⟨dx, fs, hp, ht, hk, hno⟩ := S.ra.ob
    obtain ⟨b1, b2⟩ := best_spec c dy W S.dn
    refine ⟨_, rfl, _, rfl, _, rfl, _, rfl, rl, t, c, dy, W, rfl, S.rl, S.ro, (fun hct du H1 e1 hdu => ?_), (fun hct hbn H1 e1 => ?_), fun hct z hbz du H1 e1 hdu => ?_⟩
    · refine ⟨_, rfl, p, dx, fs, rfl, e1 _ _ hp, hno _ (by decide +kernel), _, rfl, _, rfl, rfl, p, d, t, c, dy, kvW W, rfl, S.ra.same e1, (fun _ r H2 e2 hr => ?_), (fun z => absurd hct z), fun z => absurd hct z⟩
      have hT := SqT.of (K := K) hr
      refine ⟨_, rfl, rfl, _, rfl, decF (fun h => by cases h) ?_⟩
      refine ⟨_, rfl, _, _, _, _, _, rfl, .of (.tup hr), rfl, rfl, true, rfl, iteF ?_⟩
      refine ⟨_, rfl, r, _, rfl, .inr hT, rfl, _, rfl, ndecF rfl ?_⟩
      refine ⟨_, rfl, .inr (.inl ⟨r, _, 0, _, rfl, rfl, hT, rfl, _, rfl, true, rfl, iteT ?_⟩)⟩
      refine ⟨_, rfl, .inr (.inl ⟨r, _, 1, _, rfl, rfl, hT, rfl, _, rfl, true, rfl, iteT ?_⟩)⟩
      exact ⟨_, rfl, _, rfl, .inr ⟨r, du, _, rfl, rfl, hT, SqT.of (e2 _ _ hdu), pl2⟩, q _ (e1.trans e2)⟩
    · refine ⟨_, rfl, p, dx, fs, rfl, e1 _ _ hp, hno _ (by decide +kernel), _, rfl, _, rfl, rfl, p, d, t, c, dy, kvW W, rfl, S.ra.same e1, (fun z => absurd z hct), (fun _ _ e H2 e2 he => ⟨q_mr, fun x hx => ?_⟩), fun _ hne => absurd (b1 hbn) hne⟩
      have nx : e ≠ x := ne_of_none he hx
      refine ⟨_, rfl, rfl, _, rfl, ndecF rfl ?_⟩
      refine ⟨_, rfl, _, _, _, _, _, rfl, .exc upd_same X_NoRate, rfl, q_rr, true, rfl, iteF ?_⟩
      refine ⟨_, rfl, (by show 2 ≤ sizeLine; decide), fun tp htp => ⟨x, _, _, tp, _, _, _, rfl, (by rw [upd_ne (ne_of_none upd_same htp)]; exact upd_same), X_NoRate, upd_same, rfl, q_rnt, false, rfl, iteF ?_⟩⟩
      have f1 := same_upd (o := .tup [.ref C_NoNumber, .ref C_Twice]) htp
      refine ⟨_, rfl, x, C_NoRate, some e, rfl, .inr (.inl rfl), f1 _ _ upd_same, fun H4 e4 => ⟨false, rfl, iteF ?_⟩⟩
      exact ⟨_, rfl, _, rfl, _, rfl, x, C_NoRate, e, c, dy, rfl, .inl rfl, e4 _ _ (f1 _ _ upd_same), e4 _ _ (f1 _ _ (by rw [upd_ne nx]; exact he)), q _ ((((e1.trans e2).trans (same_upd hx)).trans f1).trans e4)⟩
    · obtain ⟨z1, z2, z3, z4⟩ := b2 z hbz
      refine ⟨_, rfl, p, dx, fs, rfl, e1 _ _ hp, hno _ (by decide +kernel), _, rfl, _, rfl, rfl, p, d, t, c, dy, kvW W, rfl, S.ra.same e1, (fun w => absurd w hct), (fun _ hnil => by rw [hnil] at z2; cases z2), fun _ hne m hm hmx => ?_⟩
      rw [day_max z2 z3 hm hmx]
      refine ⟨.ref z.2.2.2.2.2, z4, fun H2 e2 => ?_⟩
      have hr := ((S.ro.same (e1.trans e2)) z z1).2
      have hT := SqT.of (K := K) hr
      refine ⟨_, rfl, rfl, _, rfl, decF (fun h => by cases h) ?_⟩
      refine ⟨_, rfl, _, _, _, _, _, rfl, .of (.tup hr), rfl, rfl, true, rfl, iteF ?_⟩
      refine ⟨_, rfl, z.2.2.2.2.2, _, rfl, .inr hT, rfl, _, rfl, ndecF rfl ?_⟩
      refine ⟨_, rfl, .inr (.inl ⟨z.2.2.2.2.2, _, 0, _, rfl, rfl, hT, rfl, _, rfl, true, rfl, iteT ?_⟩)⟩
      refine ⟨_, rfl, .inr (.inl ⟨z.2.2.2.2.2, _, 1, _, rfl, rfl, hT, rfl, _, rfl, true, rfl, iteT ?_⟩)⟩
      exact ⟨_, rfl, _, rfl, .inr ⟨z.2.2.2.2.2, du, _, rfl, rfl, hT, SqT.of (e2 _ _ hdu), pl2⟩, q _ (e1.trans e2)⟩
theorem sc__law_answer : FnScope ["_law_some", "_law_coin", "_law_day", "_law_top_here", "_law_bottom"] ["_law_some", "_law_coin", "_law_day", "_law_top_here", "_law_bottom"] (defScope s__law_answer) := ⟨rfl, rfl, rfl, by decide +kernel, rfl, by decide +kernel, by decide +kernel⟩
theorem ok__law_answer (D : Def K mg "_law_answer" s__law_answer .none) {C_NoNumber C_Rates C_Twice : Addr} (c_Rates_tell : CalM P w K mg base (CX1 P w) true 3 C_Rates "tell" ["self", "coin", "day", "top", "bottom"] [.int 1] (spTellE K C_Rates C_NoNumber C_Twice)) (cl_Rates : Cls K C_Rates) : Cal P w K mg base (CX1 P w) true 4 "_law_answer" ["_law_some", "_law_coin", "_law_day", "_law_top_here", "_law_bottom"] [] (spAns K C_Rates C_NoNumber C_Twice) := by
  obtain ⟨f, fd, F, hm⟩ := D
  obtain ⟨f_Rates_tell, fd_Rates_tell, d_Rates_tell, G_Rates_tell, m_Rates_tell, b_Rates_tell, v_Rates_tell, b_Rates_tell1⟩ := c_Rates_tell
  refine ⟨f, fd, _, F.okX sc__law_answer (fun vs H Q E h => ?_) (fun cdv A outer s H vs Q E hr h => ?_), hm, F.kp, (F.binds fun _ _ _ _ _ _ us hl => match us, hl with | [_, _, _, _, _], _ => rfl), .nil, F.binds fun _ _ _ _ _ _ us hl => match us, hl with | [_, _, _, _, _], _ => rfl⟩
  · obtain ⟨p, d, t, c, dy, tp, ob, kvs, rfl, R, hb, hln, q⟩ := h
    rfl
  · obtain ⟨p, d, t, c, dy, tp, ob, kvs, rfl, R, hb, hln, q⟩ := h
    have nd := sc__law_answer.nd
    refine ⟨_, (pss_cons (ps_if (pt_cmpR op_isN (pv 4) pe_non (nomark _)) (pss_one (ps_ret (pe_methR (pv 0) cl_Rates m_Rates_tell G_Rates_tell (hr.mono (by decide)) b_Rates_tell1 v_Rates_tell xe_def (pa_cons (pv 1) (pa_cons (pv 2) (pa_cons (pv 3) pa_nil)))))) pss_nil)
      (pss_one (ps_ret (pe_methR (pv 0) cl_Rates m_Rates_tell G_Rates_tell (hr.mono (by decide)) b_Rates_tell Paired.nil xe_def (pa_cons (pv 1) (pa_cons (pv 2) (pa_cons (pv 3) (pa_cons (pv 4) pa_nil)))))))), ?_⟩
    obtain ⟨dx, fs, hp, ht, hk, hno⟩ := R.ob
    cases ob with
    | none =>
      refine ⟨_, rfl, rfl, _, rfl, decT rfl ?_⟩
      exact ⟨_, rfl, p, dx, fs, rfl, hp, hno _ (by decide +kernel), _, rfl, _, rfl, _, rfl, True.intro, p, d, t, c, dy, tp, 1, kvs, rfl, R, by decide, hln, q⟩
    | some b =>
      refine ⟨_, rfl, rfl, _, rfl, decF (fun h => by cases h) ?_⟩
      exact ⟨_, rfl, p, dx, fs, rfl, hp, hno _ (by decide +kernel), _, rfl, _, rfl, _, rfl, _, rfl, True.intro, p, d, t, c, dy, tp, b, kvs, rfl, R, hb, hln, q⟩
theorem sc__law_told : FnScope ["_law_some", "_law_rows", "_law_told_here", "_law_tell", "_law_bad", "_law_twice", "_law_row_here", "_law_e", "_law_coin", "_law_day", "_law_top_here", "_law_bottom", "_law_answer_here"] ["_law_some", "_law_rows", "_law_told_here", "_law_tell"] (defScope s__law_told) := ⟨rfl, rfl, rfl, by decide +kernel, rfl, by decide +kernel, by decide +kernel⟩
theorem ok__law_told (D : Def K mg "_law_told" s__law_told .none) {C_BooksError C_NoNumber C_NoRate C_Rates C_Twice : Addr} (c__law_answer : Cal P w K mg base (CX1 P w) true 4 "_law_answer" ["_law_some", "_law_coin", "_law_day", "_law_top_here", "_law_bottom"] [] (spAns K C_Rates C_NoNumber C_Twice)) (c__law_otherF : Cal P w K mg base CX0 false 1 "_law_other" ["_law_e"] [] (spOther C_NoNumber C_NoRate C_Twice)) (c__law_namedF : Cal P w K mg base CX0 false 2 "_law_named" ["_law_e", "_law_coin", "_law_day"] [] (spNamed C_NoRate C_Twice)) (z_isinstance : mg "isinstance" = none) (m_BooksError : mg "BooksError" = some (.ref C_BooksError)) (m_NoRate : mg "NoRate" = some (.ref C_NoRate)) (m_NoNumber : mg "NoNumber" = some (.ref C_NoNumber)) (m_Twice : mg "Twice" = some (.ref C_Twice)) (X_NoNumber : XCls K C_NoNumber) (X_Twice : XCls K C_Twice) (q_mn : PySem.W.exmOne K (.ref C_NoNumber) (.ref C_BooksError) = some true) (q_mw : PySem.W.exmOne K (.ref C_Twice) (.ref C_BooksError) = some true) (q_nR : PySem.W.kitOne K (.ref C_NoNumber) (.ref C_NoRate) = some false) (q_nN : PySem.W.kitOne K (.ref C_NoNumber) (.ref C_NoNumber) = some true) (q_nT : PySem.W.kitOne K (.ref C_NoNumber) (.ref C_Twice) = some false) (q_wR : PySem.W.kitOne K (.ref C_Twice) (.ref C_NoRate) = some false) (q_wN : PySem.W.kitOne K (.ref C_Twice) (.ref C_NoNumber) = some false) (q_wT : PySem.W.kitOne K (.ref C_Twice) (.ref C_Twice) = some true) : Cal P w K mg base CX0 true 5 "_law_told" ["_law_some", "_law_rows", "_law_told_here", "_law_tell"] [] (spToldE K C_Rates) := by
  obtain ⟨f, fd, F, hm⟩ := D
  obtain ⟨f__law_answer, fd__law_answer, d__law_answer, G__law_answer, m__law_answer, k__law_answer, b__law_answer, v__law_answer, b__law_answer1⟩ := c__law_answer
  obtain ⟨f__law_otherF, fd__law_otherF, d__law_otherF, G__law_otherF, m__law_otherF, k__law_otherF, b__law_otherF, v__law_otherF, b__law_otherF1⟩ := c__law_otherF
  obtain ⟨f__law_namedF, fd__law_namedF, d__law_namedF, G__law_namedF, m__law_namedF, k__law_namedF, b__law_namedF, v__law_namedF, b__law_namedF1⟩ := c__law_namedF
  refine ⟨f, fd, _, F.ok sc__law_told (fun vs H Q E h => ?_) (fun cdv A outer s H vs Q E hr h => ?_), hm, F.kp, (F.binds fun _ _ _ _ _ _ us hl => match us, hl with | [_, _, _, _], _ => rfl), .nil, F.binds fun _ _ _ _ _ _ us hl => match us, hl with | [_, _, _, _], _ => rfl⟩
  · obtain ⟨p, d, rl, ta, t, c, dy, tp, ob, W, rfl, S, hta, hbt, q1, q2⟩ := h
    rfl
  · obtain ⟨p, d, rl, ta, t, c, dy, tp, ob, W, rfl, S, hta, hbt, q1, q2⟩ := h
    have nd := sc__law_told.nd
    refine ⟨_, (pss_cons (ps_asg (pv 3) (pg_tup rfl (pgs_cons (pg_name (i := 8) nd rfl (Or.inl rfl)) (pgs_cons (pg_name (i := 9) nd rfl (Or.inl rfl)) (pgs_cons (pg_name (i := 10) nd rfl (Or.inl rfl)) (pgs_cons (pg_name (i := 11) nd rfl (Or.inl rfl)) pgs_nil))))))
      (pss_cons (ps_set (i := 4) nd rfl (Or.inl rfl) (pe_or (pe_cmpR op_lt (pv 10) pe_int (nomark _)) (pe_one (pe_and (pe_cmpR op_notN (pv 11) pe_non (nomark _)) (pe_one (pe_cmpR op_lt (pv 11) pe_int (nomark _)))))))
      (pss_cons (ps_set (i := 5) nd rfl (Or.inl rfl) (pe_cmpR op_eq (pv 8) (pv 2) (nomark _)))
      (pss_cons (ps_for PassesOwn.never rfl (pi_list (pv 1)) (pg_name (i := 6) nd rfl (Or.inl rfl)) (pss_one (ps_if (PW.pt (pw_and (pt_cmpR op_eq (pe_ix ix_seq (pv 6) pe_int (fun _ _ => rfl)) (pv 8) (nomark _)) (pw_and1 (pt_cmpR op_eq (pe_ix ix_seq (pv 6) pe_int (fun _ _ => rfl)) (pv 9) (nomark _))))) (pss_one (ps_set (i := 5) nd rfl (Or.inl rfl) pe_bl)) pss_nil)))
      (pss_cons (ps_try (i := 7) nd rfl rfl rfl rfl rfl m_BooksError (fun pn E' R Ek hpo hxe => (pss_one (ps_set (i := 12) nd rfl (Or.inl rfl) (pe_callR G__law_answer (hr.mono (by decide)) rfl m__law_answer k__law_answer b__law_answer Paired.nil hxe (pa_cons (pv 0) (pa_cons (pv 8) (pa_cons (pv 9) (pa_cons (pv 10) (pa_cons (pv 11) pa_nil))))))))) (fun _ => (pss_cons (ps_if (PW.pt (pw_or (pt_val (pe_call G__law_otherF (Room.sup (hr.mono (by decide)) _) rfl m__law_otherF k__law_otherF b__law_otherF Paired.nil pass0 (pa_cons (pv 7) pa_nil))) (pw_or (pt_val (pe_callB call_isS rfl z_isinstance bt_isinstance (pa_cons (pv 7) (pa_cons (pe_glob (v := .ref C_NoRate) rfl m_NoRate rfl) pa_nil)))) (pw_or1 (pt_cmpR op_ne (pe_callB call_isS rfl z_isinstance bt_isinstance (pa_cons (pv 7) (pa_cons (pe_glob (v := .ref C_NoNumber) rfl m_NoNumber rfl) pa_nil))) (pv 4) (nomark _)))))) (pss_one (ps_ret pe_bl)) pss_nil)
      (pss_cons (ps_if (pt_val (pv 4)) (pss_one (ps_ret (pe_not (pe_callB call_isS rfl z_isinstance bt_isinstance (pa_cons (pv 7) (pa_cons (pe_glob (v := .ref C_Twice) rfl m_Twice rfl) pa_nil)))))) pss_nil)
      (pss_one (ps_ret (pe_and (pv 5) (pe_and (pe_callB call_isS rfl z_isinstance bt_isinstance (pa_cons (pv 7) (pa_cons (pe_glob (v := .ref C_Twice) rfl m_Twice rfl) pa_nil))) (pe_one (pe_call G__law_namedF (Room.sup (hr.mono (by decide)) _) rfl m__law_namedF k__law_namedF b__law_namedF Paired.nil pass0 (pa_cons (pv 7) (pa_cons (pv 8) (pa_cons (pv 9) pa_nil)))))))))))))
      (pss_one (ps_ret (pe_and (pe_not (pv 4)) (pe_and (pe_not (pv 5)) (pe_one (pe_cmpR op_isN (pv 12) pe_non (nomark _)))))))))))), ?_⟩
    have hta : H ta = some (.tup [.str c, .int dy, .int tp, bV ob]) := hta
    
    have hline : 600 ≤ sizeLine := by decide
    refine ⟨_, rfl, ta, _, rfl, SqT.of hta, rfl, _, _, rfl, _, _, rfl, _, _, rfl, _, _, rfl, rfl, ?_⟩
    apply join1 (fun B : Bool => (B = true ↔ Bad tp ob))
    · intro rest
      refine ⟨_, rfl, _, _, rfl, rfl, _, rfl, ?_⟩
      refine dec2 (fun h => ?_) (fun h => ?_)
      · obtain ⟨B, eB⟩ : ∃ B, V.bl B = V.bl true := ⟨true, rfl⟩
        rw (occs := .pos [1]) [← eB]
        exact rest B ⟨fun _ => .inl h, fun _ => V.bl.inj eB⟩
      · cases ob with
        | none =>
          refine ⟨_, rfl, rfl, _, rfl, ndecF rfl ?_⟩
          exact rest _ ⟨fun z => (nomatch z), fun z => z.elim (fun z => absurd z h) fun z => absurd z (by decide)⟩
        | some b =>
          refine ⟨_, rfl, rfl, _, rfl, ndecT (by intro z; cases z) ?_⟩
          refine ⟨_, rfl, _, _, rfl, rfl, ?_⟩
          exact rest _ ⟨fun z => .inr (of_decide_eq_true z), fun z => z.elim (fun z => absurd z h) fun z => decide_eq_true z⟩
    intro B hB
    refine ⟨_, rfl, _, rfl, rfl, ?_⟩
    refine ⟨_, rfl, rl, rfl, ⟨_, SqL.of S.rl⟩, ?_⟩
    have t0 : decide (V.str c = V.str t) = tws c t dy (W.take 0) := by
      unfold tws
      rw [List.take_zero]
      exact (Bool.or_false _).symm
    refine for_list (xs := rfW W) (fun i σ H' => ∃ (o1 o2 o3 : Option V), σ = [some (.ref p), some (.ref rl), some (.str t), some (.ref ta), some (.bl B), some (.bl (tws c t dy (W.take i))), o1, o2, some (.str c), some (.int dy), some (.int tp), some (bV ob), o3] ∧ H' = H) ⟨_, _, _, by rw [← t0]; rfl, rfl⟩ ?_ ?_ ?_
    · rintro i σ H1 hi ⟨o1, o2, o3, rfl, rfl⟩
      exact SqL.of S.rl
    · rintro i x σ H1 hx ⟨o1, o2, o3, rfl, rfl⟩
      obtain ⟨z, hz, rfl⟩ := rfW_at hx
      have hT := SqT.of (K := K) (S.ro z (List.mem_of_getElem? hz)).1
      have nx := tws_nx (c := c) (t := t) (dy := dy) hz
      refine ⟨_, rfl, .inr (.inl ⟨z.1, _, 0, _, rfl, rfl, hT, rfl, _, rfl, rfl, _, rfl, ?_⟩)⟩
      refine dec2 (fun h1 => ?_) (fun h1 => iteF ?_)
      · refine ⟨_, rfl, .inr (.inl ⟨z.1, _, 1, _, rfl, rfl, hT, rfl, _, rfl, rfl, _, rfl, ?_⟩)⟩
        refine dec2 (fun h2 => ?_) (fun h2 => ?_)
        · refine ⟨some (.ref z.1), o2, o3, ?_, rfl⟩
          first | (rw [nx, decide_eq_true h1, decide_eq_true h2, Bool.and_true, Bool.or_true]; done) | (rw [nx, decide_eq_true h1, decide_eq_true h2, Bool.and_true, Bool.or_true]; rfl)
        · refine ⟨some (.ref z.1), o2, o3, ?_, rfl⟩
          first | (rw [nx, decide_eq_false h2, Bool.and_false, Bool.or_false]; done) | (rw [nx, decide_eq_false h2, Bool.and_false, Bool.or_false]; rfl)
      · refine ⟨some (.ref z.1), o2, o3, ?_, rfl⟩
        first | (rw [nx, decide_eq_false h1, Bool.false_and, Bool.or_false]; done) | (rw [nx, decide_eq_false h1, Bool.false_and, Bool.or_false]; rfl)
    rintro σ H1 ⟨o1, o2, o3, rfl, rfl⟩
    rw [rfW_len, List.take_length]
    refine ⟨_, rfl, _, rfl, _, rfl, _, rfl, _, rfl, rfl, p, d, t, c, dy, tp, ob, kvW W, rfl, S.ra, hbt, (by unfold kvW; rw [List.length_map]; have := S.ln; omega), (fun hbad => ?_), (fun h1 h2 htw e H2 e2 he => ?_), fun h1 h2 hct hv r H2 hr hR hk => ?_⟩
    · have hBt : B = true := hB.mpr hbad
      subst hBt
      refine ⟨q_mn, fun x hx => ?_⟩
      obtain ⟨H2, eH⟩ : ∃ H2, H2 = H1 := ⟨_, rfl⟩
      rw [← eH] at hx ⊢
      refine ⟨_, rfl, x, C_NoNumber, none, rfl, .inl rfl, upd_same, fun H4 e4 => ⟨false, rfl, iteF ?_⟩⟩
      have hx4 := e4 _ _ (upd_same (H := H2) (a := x) (o := excO x (.ref C_NoNumber) none))
      refine ⟨_, rfl, _, _, _, _, _, rfl, .exc hx4 X_NoNumber, rfl, q_nR, false, rfl, iteF ?_⟩
      refine ⟨_, rfl, _, _, _, _, _, rfl, .exc hx4 X_NoNumber, rfl, q_nN, _, rfl, rfl, _, rfl, ndecF (congrArg V.bl rfl) ?_⟩
      refine ⟨_, rfl, true, rfl, iteT ?_⟩
      exact ⟨_, rfl, _, _, _, _, _, rfl, .exc hx4 X_NoNumber, rfl, q_nT, false, rfl, q1 (.inl hbad) _ (by rw [← eH]; exact (same_upd hx).trans e4)⟩
    · have nb : ¬ Bad tp ob := fun z => z.elim (fun z => by omega) fun z => by omega
      have hBf : B = false := by
        cases B with
        | false => rfl
        | true => exact absurd (hB.mp rfl) nb
      subst hBf
      have htt : tws c t dy W = true := by
        cases hh : tws c t dy W with
        | true => rfl
        | false =>
          obtain ⟨w1, w2⟩ := tws_false hh
          exact htw.elim (fun z => absurd z w1) fun z => absurd w2 z
      refine ⟨q_mw, fun x hx => ?_⟩
      have nx : e ≠ x := ne_of_none he hx
      refine ⟨_, rfl, x, C_Twice, (some e), rfl, .inr (.inr rfl), upd_same, fun H4 e4 => ⟨false, rfl, iteF ?_⟩⟩
      have hx4 := e4 _ _ (upd_same (H := H2) (a := x) (o := excO x (.ref C_Twice) (some e)))
      refine ⟨_, rfl, _, _, _, _, _, rfl, .exc hx4 X_Twice, rfl, q_wR, false, rfl, iteF ?_⟩
      refine ⟨_, rfl, _, _, _, _, _, rfl, .exc hx4 X_Twice, rfl, q_wN, _, rfl, rfl, _, rfl, ndecF (congrArg V.bl rfl) ?_⟩
      refine ⟨_, rfl, false, rfl, iteF ?_⟩
      rw [htt]
      refine ⟨_, rfl, true, rfl, iteT ?_⟩
      refine ⟨_, rfl, _, _, _, _, _, rfl, .exc hx4 X_Twice, rfl, q_wT, true, rfl, iteT ?_⟩
      exact ⟨_, rfl, _, rfl, _, rfl, x, C_Twice, e, c, dy, rfl, .inr rfl, hx4, e4 _ _ (by rw [upd_ne nx]; exact he), q1 (.inr htt) _ ((e2.trans (same_upd hx)).trans e4)⟩
    · have nb : ¬ Bad tp ob := fun z => z.elim (fun z => by omega) fun z => by omega
      have hBf : B = false := by
        cases B with
        | false => rfl
        | true => exact absurd (hB.mp rfl) nb
      subst hBf
      have htf : tws c t dy W = false := by
        cases hh : tws c t dy W with
        | false => rfl
        | true => exact (tws_true hh).elim (fun z => absurd z hct) fun z => absurd hv z
      rw [htf]
      refine ⟨_, rfl, false, rfl, true, rfl, iteT ?_⟩
      refine ⟨_, rfl, false, rfl, true, rfl, iteT ?_⟩
      refine ⟨_, rfl, rfl, ?_⟩
      rw [decide_eq_true rfl]
      exact q2 nb htf r _ hr hR hk
theorem tws_told {c t : Str} {dy : Int} {W : List Wd} (h : V.str c = V.str t) : tws c t dy W = true := by
  unfold tws
  rw [decide_eq_true h]
  rfl
theorem tws_mem {c t : Str} {dy : Int} {W : List Wd} {z : Wd} (hz : z ∈ W) (h1 : V.str z.2.1 = V.str c) (h2 : V.int z.2.2.1 = V.int dy) : tws c t dy W = true := by
  unfold tws
  rw [Bool.or_eq_true]
  refine .inr (List.any_eq_true.mpr ⟨z, hz, ?_⟩)
  rw [decide_eq_true h1, decide_eq_true h2]
  rfl
theorem tws_none {c t : Str} {dy : Int} {W : List Wd} (h : ¬ V.str c = V.str t) : tws c t dy (W.take 0) = false := by
  unfold tws
  rw [decide_eq_false h, List.take_zero]
  rfl
theorem sc__law_row : FnScope ["_law_rows", "_law_told_here", "_law_tell", "_law_row_here", "_law_share", "_law_coin", "_law_day", "_law_top_here", "_law_bottom"] ["_law_rows", "_law_told_here", "_law_tell"] (defScope s__law_row) := ⟨rfl, rfl, rfl, by decide +kernel, rfl, by decide +kernel, by decide +kernel⟩
theorem ok__law_row (D : Def K mg "_law_row" s__law_row .none) (c__law_divisor : Cal P w K mg base CX0 true 1 "_law_divisor" ["_law_one", "_law_other_here"] [] spG0) : Cal P w K mg base CX0 true 2 "_law_row" ["_law_rows", "_law_told_here", "_law_tell"] [] spRow := by
  obtain ⟨f, fd, F, hm⟩ := D
  obtain ⟨f__law_divisor, fd__law_divisor, d__law_divisor, G__law_divisor, m__law_divisor, k__law_divisor, b__law_divisor, v__law_divisor, b__law_divisor1⟩ := c__law_divisor
  refine ⟨f, fd, _, F.ok sc__law_row (fun vs H Q E h => ?_) (fun cdv A outer s H vs Q E hr h => ?_), hm, F.kp, (F.binds fun _ _ _ _ _ _ us hl => match us, hl with | [_, _, _], _ => rfl), .nil, F.binds fun _ _ _ _ _ _ us hl => match us, hl with | [_, _, _], _ => rfl⟩
  · obtain ⟨rl, ta, t, c, dy, tp, ob, W, rfl, hl, hW, hln, hta, hbt, htp, q1, q2⟩ := h
    rfl
  · obtain ⟨rl, ta, t, c, dy, tp, ob, W, rfl, hl, hW, hln, hta, hbt, htp, q1, q2⟩ := h
    have nd := sc__law_row.nd
    refine ⟨_, (pss_cons (ps_asg (pv 2) (pg_tup rfl (pgs_cons (pg_name (i := 5) nd rfl (Or.inl rfl)) (pgs_cons (pg_name (i := 6) nd rfl (Or.inl rfl)) (pgs_cons (pg_name (i := 7) nd rfl (Or.inl rfl)) (pgs_cons (pg_name (i := 8) nd rfl (Or.inl rfl)) pgs_nil))))))
      (pss_cons (ps_if (pt_cmpR op_isN (pv 8) pe_non (nomark _)) (pss_one (ps_set (i := 8) nd rfl (Or.inl rfl) pe_int)) pss_nil)
      (pss_cons (ps_if (PW.pt (pw_or (pt_cmpR op_lt (pv 7) pe_int (nomark _)) (pw_or (pt_cmpR op_lt (pv 8) pe_int (nomark _)) (pw_or1 (pt_cmpR op_eq (pv 5) (pv 1) (nomark _)))))) (pss_one (ps_ret (pv 0))) pss_nil)
      (pss_cons (ps_for PassesOwn.never rfl (pi_list (pv 0)) (pg_name (i := 3) nd rfl (Or.inl rfl)) (pss_one (ps_if (PW.pt (pw_and (pt_cmpR op_eq (pe_ix ix_seq (pv 3) pe_int (fun _ _ => rfl)) (pv 5) (nomark _)) (pw_and1 (pt_cmpR op_eq (pe_ix ix_seq (pv 3) pe_int (fun _ _ => rfl)) (pv 6) (nomark _))))) (pss_one (ps_ret (pv 0))) pss_nil)))
      (pss_cons (ps_set (i := 4) nd rfl (Or.inl rfl) (pe_call G__law_divisor (hr.mono (by decide)) rfl m__law_divisor k__law_divisor b__law_divisor Paired.nil pass0 (pa_cons (pv 7) (pa_cons (pv 8) pa_nil))))
      (pss_one (ps_ret (pe_op op_cat (pv 0) (pe_lst (pa_cons (pe_tup (pa_cons (pv 5) (pa_cons (pv 6) (pa_cons (pe_op op_fdivB (pv 7) (pv 4)) (pa_cons (pe_op op_fdivB (pv 8) (pv 4)) pa_nil))))) pa_nil)))))))))), ?_⟩
    have hta : H ta = some (.tup [.str c, .int dy, .int tp, bV ob]) := hta
    have hline : 600 ≤ sizeLine := by decide
    refine ⟨_, rfl, ta, _, rfl, SqT.of hta, rfl, _, _, rfl, _, _, rfl, _, _, rfl, _, _, rfl, rfl, ?_⟩
    apply join1 (fun bt : Int => bt = ob.getD 1)
    · intro rest
      by_cases hn : ob = none
      · refine ⟨_, rfl, rfl, _, rfl, decT (by rw [hn]; rfl) ?_⟩
        obtain ⟨bt, eb⟩ : ∃ bt, V.int bt = V.int 1 := ⟨1, rfl⟩
        rw (occs := .pos [1]) [← eb]
        exact rest bt (by rw [hn]; exact V.int.inj eb)
      · obtain ⟨b, hb⟩ : ∃ b, ob = some b := Option.ne_none_iff_exists'.mp hn
        have e8 : bV ob = V.int b := by rw [hb]; rfl
        refine ⟨_, rfl, rfl, _, rfl, decF (by rw [e8]; intro z; cases z) ?_⟩
        have r := rest b (by rw [hb]; rfl)
        rw [e8] at r ⊢
        exact r
    intro bt hbe
    refine ⟨_, rfl, _, _, rfl, rfl, _, rfl, ?_⟩
    refine dec2 (fun h1 => iteT ⟨_, rfl, q1 (.inl (.inl h1))⟩) (fun h1 => ?_)
    refine ⟨_, rfl, _, _, rfl, rfl, _, rfl, ?_⟩
    refine dec2 (fun h2 => iteT ⟨_, rfl, q1 (.inl (.inr (by rw [← hbe]; exact h2)))⟩) (fun h2 => ?_)
    refine ⟨_, rfl, _, rfl, rfl, _, rfl, ?_⟩
    refine dec2 (fun h3 => ⟨_, rfl, q1 (.inr (tws_told h3))⟩) (fun h3 => ?_)
    refine ⟨_, rfl, rl, rfl, ⟨_, SqL.of hl⟩, ?_⟩
    refine for_list (xs := rfW W) (fun i σ H' => ∃ (o1 o2 : Option V), σ = [some (.ref rl), some (.str t), some (.ref ta), o1, o2, some (.str c), some (.int dy), some (.int tp), some (.int bt)] ∧ H' = H ∧ tws c t dy (W.take i) = false) ⟨_, _, rfl, rfl, tws_none h3⟩ ?_ ?_ ?_
    · rintro i σ H1 hi ⟨o1, o2, rfl, rfl, _⟩
      exact SqL.of hl
    · rintro i x σ H1 hx ⟨o1, o2, rfl, rfl, htw⟩
      obtain ⟨z, hz, rfl⟩ := rfW_at hx
      have hzm := List.mem_of_getElem? hz
      have hT := SqT.of (K := K) (hW z hzm).1
      have nx := tws_nx (c := c) (t := t) (dy := dy) hz
      refine ⟨_, rfl, .inr (.inl ⟨z.1, _, 0, _, rfl, rfl, hT, rfl, _, rfl, rfl, _, rfl, ?_⟩)⟩
      refine dec2 (fun h4 => ?_) (fun h4 => iteF ?_)
      · refine ⟨_, rfl, .inr (.inl ⟨z.1, _, 1, _, rfl, rfl, hT, rfl, _, rfl, rfl, _, rfl, ?_⟩)⟩
        refine dec2 (fun h5 => ⟨_, rfl, q1 (.inr (tws_mem hzm h4 h5))⟩) (fun h5 => ?_)
        exact ⟨_, _, rfl, rfl, by rw [nx, htw, decide_eq_false h5, Bool.and_false]; rfl⟩
      · exact ⟨_, _, rfl, rfl, by rw [nx, htw, decide_eq_false h4, Bool.false_and]; rfl⟩
    rintro σ H1 ⟨o1, o2, rfl, rfl, htw⟩
    rw [rfW_len, List.take_length] at htw
    have nb : ¬ Bad tp ob := fun z => z.elim (fun z => by omega) fun z => by rw [← hbe] at z; omega
    have hd := N11.dF_in (t := tp) (b := bt) (by omega)
    have hg : N11.dF tp bt = N11.gF tp bt := if_neg (by omega)
    have q2 := q2 nb htw
    rw [← hbe] at hbt q2
    rw [hg] at hd q2
    refine ⟨_, rfl, _, rfl, tp, bt, rfl, by omega, by omega, ?_⟩
    refine ⟨_, rfl, _, rfl, _, rfl, _, rfl, _, rfl, _, _, rfl, rfl, log_of (by omega) (by omega) (by omega), _, rfl, _, rfl, _, _, rfl, rfl, log_of (by omega) (by omega) (by omega), (by show 4 ≤ sizeLine; decide), fun a ha => ⟨(by show 1 ≤ sizeLine; decide), fun l hl1 => ?_⟩⟩
    have f1 := same_upd (o := .tup [.str c, .int dy, .int (Int.fdiv tp (N11.gF tp bt)), .int (Int.fdiv bt (N11.gF tp bt))]) ha
    have f2 := same_upd (o := .lst [.ref a]) hl1
    have f12 := f1.trans f2
    have wl := rfW_len W
    refine ⟨rl, l, _, _, rfl, rfl, f12 _ _ hl, upd_same, (by rw [wl]; show W.length + 1 ≤ sizeLine; omega), fun n hn => ?_⟩
    have f3 := same_upd (o := .lst (rfW W ++ [.ref a])) hn
    exact q2 n a _ (f12.trans f3) (f12.free hn) (f3 _ _ (f2 _ _ upd_same)) upd_same
theorem sc__law_all_asked : FnScope ["_law_some", "_law_rows", "_law_told_here", "_law_base", "_law_day", "_law_coin"] ["_law_some", "_law_rows", "_law_told_here", "_law_base"] (defScope s__law_all_asked) := ⟨rfl, rfl, rfl, by decide +kernel, rfl, by decide +kernel, by decide +kernel⟩
theorem ok__law_all_asked (D : Def K mg "_law_all_asked" s__law_all_asked .none) {C_Rates : Addr} (c__law_asked : Cal P w K mg base CX0 true 4 "_law_asked" ["_law_some", "_law_rows", "_law_told_here", "_law_coin", "_law_day"] [] (spAsk K C_Rates)) : Cal P w K mg base CX0 true 5 "_law_all_asked" ["_law_some", "_law_rows", "_law_told_here", "_law_base"] [] (spAll K C_Rates) := by
  obtain ⟨f, fd, F, hm⟩ := D
  obtain ⟨f__law_asked, fd__law_asked, d__law_asked, G__law_asked, m__law_asked, k__law_asked, b__law_asked, v__law_asked, b__law_asked1⟩ := c__law_asked
  refine ⟨f, fd, _, F.ok sc__law_all_asked (fun vs H Q E h => ?_) (fun cdv A outer s H vs Q E hr h => ?_), hm, F.kp, (F.binds fun _ _ _ _ _ _ us hl => match us, hl with | [_, _, _, _], _ => rfl), .nil, F.binds fun _ _ _ _ _ _ us hl => match us, hl with | [_, _, _, _], _ => rfl⟩
  · obtain ⟨p, d, rl, t, b, W, rfl, S, q⟩ := h
    rfl
  · obtain ⟨p, d, rl, t, b, W, rfl, S, q⟩ := h
    have nd := sc__law_all_asked.nd
    refine ⟨_, (pss_cons (ps_for PassesOwn.never rfl (pi_list (pe_lst (pa_cons (pe_op op_add (pv 3) pe_int) (pa_cons pe_int (pa_cons pe_int pa_nil))))) (pg_name (i := 4) nd rfl (Or.inl rfl)) (pss_one (ps_for PassesOwn.never rfl (pi_list (pe_op op_cat (pe_lst (pa_cons pe_str (pa_cons (pv 2) pa_nil))) (pe_lc [] rfl (LcOk.plain (by decide +kernel) (by decide +kernel) rfl (by decide +kernel) rfl) (pi_list (pv 1)) (fun C s2 H2 fp xe => (pe_ix ix_seqC (pv 0) pe_int (fun _ _ => rfl)))))) (pg_name (i := 5) nd rfl (Or.inl rfl)) (pss_one (ps_if (pt_not (pt_val (pe_call G__law_asked (hr.mono (by decide)) rfl m__law_asked k__law_asked b__law_asked Paired.nil pass0 (pa_cons (pv 0) (pa_cons (pv 1) (pa_cons (pv 2) (pa_cons (pv 5) (pa_cons (pv 4) pa_nil)))))))) (pss_one (ps_ret pe_bl)) pss_nil)))))
      (pss_one (ps_ret pe_bl))), ?_⟩
    have hline : 600 ≤ sizeLine := by decide
    refine ⟨_, rfl, _, _, rfl, rfl, (by show 3 ≤ sizeLine; decide), fun l hl => ⟨l, rfl, ⟨_, SqL.of upd_same⟩, ?_⟩⟩
    refine for_list (xs := [V.int (b + 5), V.int 9999, V.int 0]) (fun i σ H' => ∃ (o4 o5 : Option V), σ = [some (.ref p), some (.ref rl), some (.str t), some (.int b), o4, o5] ∧ Same H H' ∧ H' l = some (.lst [.int (b + 5), .int 9999, .int 0])) ⟨_, _, rfl, same_upd hl, upd_same⟩ ?_ ?_ ?_
    · rintro i σ H1 hi ⟨o4, o5, rfl, e, hl1⟩
      exact SqL.of hl1
    · rintro i x σ H1 hx ⟨o4, o5, rfl, e, hl1⟩
      obtain ⟨dy, rfl⟩ : ∃ dy : Int, x = .int dy := by
        have := List.mem_of_getElem? hx
        simp only [List.mem_cons, List.not_mem_nil, or_false] at this
        rcases this with rfl | rfl | rfl <;> exact ⟨_, rfl⟩
      refine ⟨_, rfl, (by show 2 ≤ sizeLine; decide), fun l1 hl2 => ?_⟩
      have f1 := same_upd (o := .lst [.str "one", .str t]) hl2
      have S1 := (S.same e).same f1
      have wl := rfW_len W
      have wn := S.ln
      refine ⟨_, rfl, rl, rfl, ⟨_, SqL.of S1.rl⟩, ?_⟩
      refine lc_list (xs := rfW W) (fun j ys H3 => ys = (W.take j).map (fun z => V.str z.2.1) ∧ H3 = upd H1 l1 (.lst [.str "one", .str t])) ⟨rfl, rfl⟩ (by omega) ?_ ?_ ?_
      · rintro j ys H3 hj ⟨rfl, rfl⟩
        refine ⟨SqL.of S1.rl, ?_⟩
        rw [List.length_map, List.length_take]
        omega
      · rintro j x ys H3 hx ⟨rfl, rfl⟩
        obtain ⟨z, hz, rfl⟩ := rfW_at hx
        refine ⟨_, rfl, .inr (.inl ⟨z.1, _, 0, _, rfl, rfl, SqT.of (S1.ro z (List.mem_of_getElem? hz)).1, rfl, ?_, rfl⟩)⟩
        rw [takeNx hz, List.map_append]
        rfl
      rintro ys H3 ⟨rfl, rfl⟩ l2 hl3
      rw [wl, List.take_length]
      have f2 := same_upd (o := .lst (W.map fun z => V.str z.2.1)) hl3
      refine ⟨l1, l2, _, _, rfl, rfl, f2 _ _ upd_same, upd_same, (by rw [List.length_map]; show 2 + W.length ≤ sizeLine; omega), fun n hn => ⟨n, rfl, ⟨_, SqL.of upd_same⟩, ?_⟩⟩
      have f3 := same_upd (o := .lst ([.str "one", .str t] ++ W.map fun z => V.str z.2.1)) hn
      have ee := ((e.trans f1).trans f2).trans f3
      refine for_list (xs := [.str "one", .str t] ++ W.map fun z => V.str z.2.1) (fun i σ H' => ∃ (o5 : Option V), σ = [some (.ref p), some (.ref rl), some (.str t), some (.int b), some (.int dy), o5] ∧ Same H H' ∧ H' n = some (.lst ([.str "one", .str t] ++ W.map fun z => V.str z.2.1)) ∧ H' l = some (.lst [.int (b + 5), .int 9999, .int 0])) ⟨_, rfl, ee, upd_same, f3 _ _ (f2 _ _ (f1 _ _ hl1))⟩ ?_ ?_ ?_
      · rintro j σ H3 hj ⟨o5, rfl, e3, hn3, _⟩
        exact SqL.of hn3
      · rintro j x σ H3 hx ⟨o5, rfl, e3, hn3, hl4⟩
        obtain ⟨c, rfl⟩ : ∃ c : Str, x = .str c := by
          rcases List.mem_append.mp (List.mem_of_getElem? hx) with m | m
          · simp only [List.mem_cons, List.not_mem_nil, or_false] at m
            rcases m with rfl | rfl <;> exact ⟨_, rfl⟩
          · obtain ⟨z, _, rfl⟩ := List.mem_map.mp m
            exact ⟨_, rfl⟩
        exact ⟨_, rfl, _, rfl, _, rfl, _, rfl, _, rfl, p, d, rl, t, c, dy, W, rfl, S.same e3, fun H4 e4 => ⟨true, rfl, iteF ⟨_, rfl, e3.trans e4, e4 _ _ hn3, e4 _ _ hl4⟩⟩⟩
      · rintro σ H3 ⟨o5, rfl, e3, hn3, hl4⟩
        exact ⟨_, _, rfl, e3, hl4⟩
    rintro σ H1 ⟨o4, o5, rfl, e, _⟩
    exact q _ e
def LAWPART : Unit := ()
theorem some_ne {H : Hp} {a b : Addr} {o : HO} (h : H a = some o) (h' : H b = none) : a ≠ b := fun z => by rw [z, h'] at h; cases h
theorem join3 {α β γ : Type} {G : Prop} (F P : α → β → γ → Prop) (hm : (∀ x y z, F x y z → P x y z) → G) (hr : ∀ x y z, F x y z → P x y z) : G := hm hr
theorem int_in {ws : List Int} {i : Int} (h0 : 0 ≤ i) (h1 : i < ws.length) : ∃ w ∈ ws, atI (ws.map V.int) i = some (.int w) := by
  obtain ⟨n, rfl⟩ := Int.eq_ofNat_of_zero_le h0
  have hn : n < ws.length := by omega
  exact ⟨ws[n], List.getElem_mem hn, atI_nat (by rw [List.getElem?_map, List.getElem?_eq_getElem hn]; rfl)⟩
theorem cut_nat (ns : List Int) (i j : Nat) : (cutV (ns.map V.int) (some (i : Int)) (some (j : Int))).length = min j ns.length - min i ns.length := by
  unfold cutV
  rw [List.length_take, List.length_drop, List.length_map, HT.sIx_nat, HT.sIx_nat]
  omega
abbrev Tl := Addr × Str × Int × Int × Option Int
def put {α : Type} (f : Nat → α) (j : Nat) (v : α) : Nat → α := fun i => if i = j then v else f i
theorem put_at {α : Type} (f : Nat → α) (j : Nat) (v : α) : put f j v j = v := if_pos rfl
theorem put_ne {α : Type} {f : Nat → α} {i j : Nat} {v : α} (h : i ≠ j) : put f j v i = f i := if_neg h
theorem two {j : Nat} (h : j < 2) : j = 0 ∨ j = 1 := by omega
theorem at2 {α : Type} (f : Nat → α) {j : Nat} (h : j < 2) : atI [f 0, f 1] (j : Int) = some (f j) := by
  rcases two h with rfl | rfl <;> exact atI_nat rfl
theorem at2r {α : Type} (f : Nat → α) {j : Nat} (h : j < 2) : atI [f 0, f 1] (1 - (j : Int)) = some (f (1 - j)) := by
  rcases two h with rfl | rfl
  · exact atI_nat (j := 1) rfl
  · exact atI_nat (j := 0) rfl
theorem ix2 {j : Nat} (h : j < 2) : ixN 2 (j : Int) = some j := by
  rcases two h with rfl | rfl <;> rfl
theorem set2 {α : Type} (g : α → V) (f : Nat → α) {j : Nat} (h : j < 2) (v : α) : [g (f 0), g (f 1)].set j (g v) = [g (put f j v 0), g (put f j v 1)] := by
  rcases two h with rfl | rfl <;> rfl
theorem at4 {x y z o : Str} (i : Int) : ∃ c : Str, atI [V.str x, V.str y, V.str z, V.str o] (i % 4) = some (.str c) := by
  have h0 := Int.emod_nonneg i (show (4 : Int) ≠ 0 by decide)
  have h1 := Int.emod_lt_of_pos i (show (0 : Int) < 4 by decide)
  have : i % 4 = 0 ∨ i % 4 = 1 ∨ i % 4 = 2 ∨ i % 4 = 3 := by omega
  rcases this with e | e | e | e <;> rw [e]
  · exact ⟨x, rfl⟩
  · exact ⟨y, rfl⟩
  · exact ⟨z, rfl⟩
  · exact ⟨o, rfl⟩
theorem Ss.updL {K : PySem.W.Frag} {C : Addr} {H : Hp} {p d rl q : Addr} {t : Str} {W : List Wd} {xs ys : List V} (s : Ss K C H p d rl t W) (hq : H q = some (.lst xs)) (n : rl ≠ q) : Ss K C (upd H q (.lst ys)) p d rl t W := by
  have kp : ∀ b o, H b = some o → (∀ l, o ≠ .lst l) → upd H q (.lst ys) b = some o := fun b o h z => by
    rw [upd_ne (ne_of h hq (z xs))]
    exact h
  obtain ⟨⟨dx, fs, hp, r⟩, hd, hln, hks⟩ := s.ra
  exact ⟨⟨⟨dx, fs, kp _ _ hp (fun l z => by cases z), r⟩, kp _ _ hd (fun l z => by cases z), hln, hks⟩, by rw [upd_ne n]; exact s.rl, fun z hz => ⟨kp _ _ (s.ro z hz).1 (fun l w => by cases w), kp _ _ (s.ro z hz).2 (fun l w => by cases w)⟩, s.dn, s.ln⟩
structure Lw (K : PySem.W.Frag) (C : Addr) (H : Hp) (P D : Nat → Addr) (T : Nat → Str) (rr ll : Addr) (RL : Nat → Addr) (W : Nat → List Wd) (TT : Nat → Tl) (k : Nat) : Prop where
  s : ∀ j, j < 2 → Ss K C H (P j) (D j) (RL j) (T j) (W j)
  ln : ∀ j, j < 2 → (W j).length ≤ k
  nr : ∀ j, j < 2 → RL j ≠ rr ∧ RL j ≠ ll
  nd : D 0 ≠ D 1
  nl : rr ≠ ll
  r : H rr = some (.lst [.ref (RL 0), .ref (RL 1)])
  l : H ll = some (.lst [.ref (TT 0).1, .ref (TT 1).1])
  t : ∀ j, j < 2 → tellO (TT j).1 (TT j).2.1 (TT j).2.2.1 (TT j).2.2.2.1 (TT j).2.2.2.2 H
  b : ∀ j, j < 2 → 0 ≤ (TT j).2.2.1 ∧ (TT j).2.2.2.1 ≤ 10 ^ 9 ∧ (TT j).2.2.2.2.getD 1 ≤ 10 ^ 9
section
variable {C : Addr} {H H' : Hp} {P D RL : Nat → Addr} {T : Nat → Str} {rr ll : Addr} {W : Nat → List Wd} {TT : Nat → Tl} {k : Nat}
theorem Lw.same (w : Lw K C H P D T rr ll RL W TT k) (e : Same H H') : Lw K C H' P D T rr ll RL W TT k := ⟨fun j h => (w.s j h).same e, w.ln, w.nr, w.nd, w.nl, e _ _ w.r, e _ _ w.l, fun j h => e _ _ (w.t j h), w.b⟩
theorem tell_updL {ta q : Addr} {c : Str} {dy tp : Int} {ob : Option Int} {xs ys : List V} (h : tellO ta c dy tp ob H) (hq : H q = some (.lst xs)) : tellO ta c dy tp ob (upd H q (.lst ys)) := by
  have h : H ta = some (.tup [.str c, .int dy, .int tp, bV ob]) := h
  show upd H q (.lst ys) ta = _
  rw [upd_ne (ne_of h hq (by intro z; cases z))]
  exact h
theorem Lw.last (w : Lw K C H P D T rr ll RL W TT k) {j : Nat} (hj : j < 2) {z : Tl} (ht : tellO z.1 z.2.1 z.2.2.1 z.2.2.2.1 z.2.2.2.2 H) (hb : 0 ≤ z.2.2.1 ∧ z.2.2.2.1 ≤ 10 ^ 9 ∧ z.2.2.2.2.getD 1 ≤ 10 ^ 9) :
    Lw K C (upd H ll (.lst ([V.ref (TT 0).1, V.ref (TT 1).1].set j (.ref z.1)))) P D T rr ll RL W (put TT j z) k := by
  refine ⟨fun i h => (w.s i h).updL w.l (w.nr i h).2, w.ln, w.nr, w.nd, w.nl, by rw [upd_ne w.nl]; exact w.r, ?_, fun i h => ?_, fun i h => ?_⟩
  · rw [upd_same, set2 (fun z : Tl => V.ref z.1) TT hj z]
  · by_cases e : i = j
    · rw [e, put_at]
      exact tell_updL ht w.l
    · rw [put_ne e]
      exact tell_updL (w.t i h) w.l
  · by_cases e : i = j
    · rw [e, put_at]
      exact hb
    · rw [put_ne e]
      exact w.b i h
theorem Lw.refused (w : Lw K C H P D T rr ll RL W TT k) {j : Nat} (hj : j < 2) :
    Lw K C (upd H rr (.lst ([V.ref (RL 0), V.ref (RL 1)].set j (.ref (RL j))))) P D T rr ll RL W TT (k + 1) := by
  refine ⟨fun i h => (w.s i h).updL w.r (w.nr i h).1, fun i h => Nat.le_succ_of_le (w.ln i h), w.nr, w.nd, w.nl, ?_, by rw [upd_ne (Ne.symm w.nl)]; exact w.l, fun i h => tell_updL (w.t i h) w.r, w.b⟩
  rw [upd_same]
  rcases two hj with rfl | rfl <;> rfl
theorem Lw.taken (w : Lw K C H P D T rr ll RL W TT k) {j : Nat} (hj : j < 2) {H1 H2 : Hp} {c : Str} {dy t' b' : Int} {r n a : Addr} (kp : ∀ b o, H b = some o → b ≠ D j → H1 b = some o)
    (hR : RatesAt K C H1 (P j) (D j) (T j) (kvW (W j) ++ [([Sum.inr c, Sum.inl dy], .ref r)])) (hr : H1 r = some (.tup [.int t', .int b'])) (e : Same H1 H2) (hn0 : H1 n = none) (ha : H2 a = some (.tup [.str c, .int dy, .int t', .int b'])) (hn : H2 n = some (.lst (rfW (W j) ++ [.ref a]))) (hdy : 0 ≤ dy) (hk : k < 60) :
    Lw K C (upd H2 rr (.lst ([V.ref (RL 0), V.ref (RL 1)].set j (.ref n)))) P D T rr ll (put RL j n) (put W j (W j ++ [(a, c, dy, t', b', r)])) TT (k + 1) := by
  have hd := (w.s j hj).ra.dc
  have kl : ∀ b o, H b = some o → (∀ l, o ≠ .dT l) → H2 b = some o := fun b o h z => e _ _ (kp b o h (ne_of h hd (z _)))
  have r2 := kl _ _ w.r (fun l z => by cases z)
  have l2 := kl _ _ w.l (fun l z => by cases z)
  have nrr : n ≠ rr := (some_ne (kp _ _ w.r (ne_of w.r hd (by intro z; cases z))) hn0).symm
  have nll : n ≠ ll := (some_ne (kp _ _ w.l (ne_of w.l hd (by intro z; cases z))) hn0).symm
  have S2 : ∀ i, i < 2 → Ss K C H2 (P i) (D i) (put RL j n i) (T i) (put W j (W j ++ [(a, c, dy, t', b', r)]) i) := fun i h => by
    by_cases ei : i = j
    · rw [ei, put_at, put_at]
      have s := w.s j hj
      refine ⟨?_, ?_, fun z hz => ?_, fun z hz => ?_, ?_⟩
      · rw [kv_app]
        exact hR.same e
      · rw [hn]
        unfold rfW
        rw [List.map_append]
        rfl
      · rcases List.mem_append.mp hz with m | m
        · exact ⟨kl _ _ (s.ro z m).1 (fun l w => by cases w), kl _ _ (s.ro z m).2 (fun l w => by cases w)⟩
        · rw [List.mem_singleton.mp m]
          exact ⟨ha, e _ _ hr⟩
      · rcases List.mem_append.mp hz with m | m
        · exact s.dn z m
        · rw [List.mem_singleton.mp m]
          exact hdy
      · rw [List.length_append]
        have := w.ln j hj
        show (W j).length + 1 ≤ 60
        omega
    · rw [put_ne ei, put_ne ei]
      have s := w.s i h
      have di : D i ≠ D j := by
        have nd := w.nd
        rcases two h with rfl | rfl <;> rcases two hj with rfl | rfl
        · exact absurd rfl ei
        · exact nd
        · exact Ne.symm nd
        · exact absurd rfl ei
      obtain ⟨⟨dx, fs, hp, rest⟩, hdd, hln, hks⟩ := s.ra
      exact ⟨⟨⟨dx, fs, kl _ _ hp (fun l z => by cases z), rest⟩, e _ _ (kp _ _ hdd di), hln, hks⟩, kl _ _ s.rl (fun l z => by cases z), fun z hz => ⟨kl _ _ (s.ro z hz).1 (fun l w => by cases w), kl _ _ (s.ro z hz).2 (fun l w => by cases w)⟩, s.dn, s.ln⟩
  have nr2 : ∀ i, i < 2 → put RL j n i ≠ rr ∧ put RL j n i ≠ ll := fun i h => by
    by_cases ei : i = j
    · rw [ei, put_at]
      exact ⟨nrr, nll⟩
    · rw [put_ne ei]
      exact w.nr i h
  refine ⟨fun i h => (S2 i h).updL r2 (nr2 i h).1, fun i h => ?_, nr2, w.nd, w.nl, ?_, by rw [upd_ne (Ne.symm w.nl)]; exact l2, fun i h => tell_updL (kl _ _ (w.t i h) (fun l z => by cases z)) r2, w.b⟩
  · by_cases ei : i = j
    · rw [ei, put_at, List.length_append]
      have := w.ln j hj
      show (W j).length + 1 ≤ k + 1
      omega
    · rw [put_ne ei]
      exact Nat.le_succ_of_le (w.ln i h)
  · rw [upd_same, set2 V.ref RL hj n]
end
def Kp (D : Nat → Addr) (rr ll : Addr) (H H' : Hp) : Prop := ∀ b o, H b = some o → b ≠ D 0 → b ≠ D 1 → b ≠ rr → b ≠ ll → H' b = some o
theorem ob_none {ob : Option Int} (h : bV ob = V.non) : ob.getD 1 ≤ 10 ^ 9 := by
  cases ob with
  | none => decide
  | some b => cases h
theorem sc_law : FnScope ["_law_script", "_law_names_here", "_law_base", "_law_some", "_law_told_here", "_law_coins", "_law_rows", "_law_last", "_law_k", "_law_cells", "_law_at", "_law_coin", "_law_day", "_law_bottom", "_law_tell", "_law_look", "_law_other_here"] ["_law_script"] (defScope s_law) := ⟨rfl, rfl, rfl, by decide +kernel, rfl, by decide +kernel, by decide +kernel⟩
theorem ok_law {f : Addr} {fd : FuncData} (F : FunD K "law" "law" s_law f fd .none) {C_Rates : Addr} (c__law_names : Cal P w K mg base CX0 true 1 "_law_names" ["_law_cell_here"] [] spNames) (c__law_cell : Cal P w K mg base CX0 true 1 "_law_cell" ["_law_script", "_law_k"] [] (spCell K)) (c_Rates___init__ : CalI P w K mg base CX0 true 1 C_Rates ["self", "told"] [.str "one"] (spInit K C_Rates)) (c__law_top : Cal P w K mg base CX0 true 1 "_law_top" ["_law_cell_here"] [] spTop) (c__law_asked : Cal P w K mg base CX0 true 4 "_law_asked" ["_law_some", "_law_rows", "_law_told_here", "_law_coin", "_law_day"] [] (spAsk K C_Rates)) (c__law_told : Cal P w K mg base CX0 true 5 "_law_told" ["_law_some", "_law_rows", "_law_told_here", "_law_tell"] [] (spToldE K C_Rates)) (c__law_row : Cal P w K mg base CX0 true 2 "_law_row" ["_law_rows", "_law_told_here", "_law_tell"] [] spRow) (c__law_all_asked : Cal P w K mg base CX0 true 5 "_law_all_asked" ["_law_some", "_law_rows", "_law_told_here", "_law_base"] [] (spAll K C_Rates)) (z_range : mg "range" = none) (z_len : mg "len" = none) (z_max : mg "max" = none) (m_Rates : mg "Rates" = some (.ref C_Rates)) (cl_Rates : Cls K C_Rates) (n_told : NoAttr K C_Rates "told") (n_known : NoAttr K C_Rates "known") : FnOk P w K mg base CX0 true 6 f fd ["_law_script"] (spLaw K) := by
  obtain ⟨f__law_names, fd__law_names, d__law_names, G__law_names, m__law_names, k__law_names, b__law_names, v__law_names, b__law_names1⟩ := c__law_names
  obtain ⟨f__law_cell, fd__law_cell, d__law_cell, G__law_cell, m__law_cell, k__law_cell, b__law_cell, v__law_cell, b__law_cell1⟩ := c__law_cell
  obtain ⟨f_Rates___init__, fd_Rates___init__, d_Rates___init__, G_Rates___init__, M_Rates, b_Rates___init__, v_Rates___init__, b_Rates___init__1⟩ := c_Rates___init__
  obtain ⟨f__law_top, fd__law_top, d__law_top, G__law_top, m__law_top, k__law_top, b__law_top, v__law_top, b__law_top1⟩ := c__law_top
  obtain ⟨f__law_asked, fd__law_asked, d__law_asked, G__law_asked, m__law_asked, k__law_asked, b__law_asked, v__law_asked, b__law_asked1⟩ := c__law_asked
  obtain ⟨f__law_told, fd__law_told, d__law_told, G__law_told, m__law_told, k__law_told, b__law_told, v__law_told, b__law_told1⟩ := c__law_told
  obtain ⟨f__law_row, fd__law_row, d__law_row, G__law_row, m__law_row, k__law_row, b__law_row, v__law_row, b__law_row1⟩ := c__law_row
  obtain ⟨f__law_all_asked, fd__law_all_asked, d__law_all_asked, G__law_all_asked, m__law_all_asked, k__law_all_asked, b__law_all_asked, v__law_all_asked, b__law_all_asked1⟩ := c__law_all_asked
  refine F.ok sc_law (fun vs H Q E h => ?_) (fun cdv A outer s H vs Q E hr h => ?_)
  · obtain ⟨a, ns, rfl, hS, hlen, q⟩ := h
    rfl
  · obtain ⟨a, ns, rfl, hS, hlen, q⟩ := h
    have nd := sc_law.nd
    refine ⟨_, (pss_cons (ps_set (i := 1) nd rfl (Or.inl rfl) (pe_call G__law_names (hr.mono (by decide)) rfl m__law_names k__law_names b__law_names Paired.nil pass0 (pa_cons (pe_call G__law_cell (hr.mono (by decide)) rfl m__law_cell k__law_cell b__law_cell Paired.nil pass0 (pa_cons (pv 0) (pa_cons pe_int pa_nil))) pa_nil)))
      (pss_cons (ps_set (i := 2) nd rfl (Or.inl rfl) (pe_op op_mod (pe_call G__law_cell (hr.mono (by decide)) rfl m__law_cell k__law_cell b__law_cell Paired.nil pass0 (pa_cons (pv 0) (pa_cons pe_int pa_nil))) pe_int))
      (pss_cons (ps_set (i := 3) nd rfl (Or.inl rfl) (pe_lst (pa_cons (pe_make0 M_Rates G_Rates___init__ (hr.mono (by decide)) rfl m_Rates b_Rates___init__1 v_Rates___init__ pass0) (pa_cons (pe_make M_Rates G_Rates___init__ (hr.mono (by decide)) rfl m_Rates b_Rates___init__ Paired.nil pass0 (pa_cons (pe_ix ix_seq (pv 1) pe_int (fun _ _ => rfl)) pa_nil)) pa_nil))))
      (pss_cons (ps_set (i := 4) nd rfl (Or.inl rfl) (pe_lst (pa_cons pe_str (pa_cons (pe_ix ix_seq (pv 1) pe_int (fun _ _ => rfl)) pa_nil))))
      (pss_cons (ps_if (PW.pt (pw_or (pt_cmpR op_ne (pe_fld (pe_ix ix_seq (pv 3) pe_int (fun _ _ => rfl)) rfl) pe_str (nomark _)) (pw_or1 (pt_cmpR op_ne (pe_fld (pe_ix ix_seq (pv 3) pe_int (fun _ _ => rfl)) rfl) (pe_ix ix_seq (pv 1) pe_int (fun _ _ => rfl)) (nomark _))))) (pss_one (ps_ret pe_bl)) pss_nil)
      (pss_cons (ps_set (i := 5) nd rfl (Or.inl rfl) (pe_op op_cat (pv 1) (pe_lst (pa_cons pe_str pa_nil))))
      (pss_cons (ps_set (i := 6) nd rfl (Or.inl rfl) (pe_lst (pa_cons (pe_lst pa_nil) (pa_cons (pe_lst pa_nil) pa_nil))))
      (pss_cons (ps_set (i := 7) nd rfl (Or.inl rfl) (pe_lst (pa_cons (pe_tup (pa_cons (pe_ix ix_seq (pv 1) pe_int (fun _ _ => rfl)) (pa_cons (pv 2) (pa_cons pe_int (pa_cons pe_int pa_nil))))) (pa_cons (pe_tup (pa_cons (pe_ix ix_seq (pv 1) pe_int (fun _ _ => rfl)) (pa_cons (pv 2) (pa_cons pe_int (pa_cons pe_non pa_nil))))) pa_nil))))
      (pss_cons (ps_for PassesOwn.never rfl (pi_range1 rfl z_range (pa_cons (pe_op op_fdiv (pe_callB call_len_seq rfl z_len bt_len (pa_cons (pe_slice sl_list (pv 0) (po_some pe_int) (po_some pe_int)) pa_nil)) pe_int) pa_nil)) (pg_name (i := 8) nd rfl (Or.inl rfl)) (pss_cons (ps_set (i := 9) nd rfl (Or.inl rfl) (pe_slice sl_list (pv 0) (po_some (pe_op op_add pe_int (pe_op op_mulB pe_int (pv 8)))) (po_some (pe_op op_add pe_int (pe_op op_mulB pe_int (pv 8))))))
      (pss_cons (ps_set (i := 10) nd rfl (Or.inl rfl) (pe_op op_mod (pe_ix ix_seq (pv 9) pe_int (fun _ _ => rfl)) pe_int))
      (pss_cons (ps_set (i := 11) nd rfl (Or.inl rfl) (pe_ix ix_seq (pv 5) (pe_op op_mod (pe_op op_fdiv (pe_ix ix_seq (pv 9) pe_int (fun _ _ => rfl)) pe_int) pe_int) (fun _ _ => rfl)))
      (pss_cons (ps_set (i := 12) nd rfl (Or.inl rfl) (pe_op op_add (pv 2) (pe_op op_mod (pe_ix ix_seq (pv 9) pe_int (fun _ _ => rfl)) pe_int)))
      (pss_cons (ps_set (i := 13) nd rfl (Or.inl rfl) (pe_call G__law_top (hr.mono (by decide)) rfl m__law_top k__law_top b__law_top Paired.nil pass0 (pa_cons (pe_ix ix_seq (pv 9) pe_int (fun _ _ => rfl)) pa_nil)))
      (pss_cons (ps_if (pt_cmpR op_eq (pe_op op_mod (pe_ix ix_seq (pv 9) pe_int (fun _ _ => rfl)) pe_int) pe_int (nomark _)) (pss_one (ps_set (i := 13) nd rfl (Or.inl rfl) pe_non)) pss_nil)
      (pss_cons (ps_set (i := 14) nd rfl (Or.inl rfl) (pe_tup (pa_cons (pv 11) (pa_cons (pv 12) (pa_cons (pe_call G__law_top (hr.mono (by decide)) rfl m__law_top k__law_top b__law_top Paired.nil pass0 (pa_cons (pe_ix ix_seq (pv 9) pe_int (fun _ _ => rfl)) pa_nil)) (pa_cons (pv 13) pa_nil))))))
      (pss_cons (ps_if (pt_cmpR op_eq (pe_op op_mod (pe_op op_fdiv (pe_ix ix_seq (pv 9) pe_int (fun _ _ => rfl)) pe_int) pe_int) pe_int (nomark _)) (pss_cons (ps_set (i := 14) nd rfl (Or.inl rfl) (pe_ix ix_seq (pv 7) (pv 10) (fun _ _ => rfl)))
      (pss_cons (ps_set (i := 11) nd rfl (Or.inl rfl) (pe_ix ix_seq (pv 14) pe_int (fun _ _ => rfl)))
      (pss_one (ps_set (i := 12) nd rfl (Or.inl rfl) (pe_ix ix_seq (pv 14) pe_int (fun _ _ => rfl)))))) pss_nil)
      (pss_cons (ps_asg (pv 14) (pg_sub (pv 7) (pv 10) set_list))
      (pss_cons (ps_if (pt_not (pt_val (pe_call G__law_asked (hr.mono (by decide)) rfl m__law_asked k__law_asked b__law_asked Paired.nil pass0 (pa_cons (pe_ix ix_seq (pv 3) (pv 10) (fun _ _ => rfl)) (pa_cons (pe_ix ix_seq (pv 6) (pv 10) (fun _ _ => rfl)) (pa_cons (pe_ix ix_seq (pv 4) (pv 10) (fun _ _ => rfl)) (pa_cons (pv 11) (pa_cons (pv 12) pa_nil)))))))) (pss_one (ps_ret pe_bl)) pss_nil)
      (pss_cons (ps_if (pt_not (pt_val (pe_call G__law_told (hr.mono (by decide)) rfl m__law_told k__law_told b__law_told Paired.nil pass0 (pa_cons (pe_ix ix_seq (pv 3) (pv 10) (fun _ _ => rfl)) (pa_cons (pe_ix ix_seq (pv 6) (pv 10) (fun _ _ => rfl)) (pa_cons (pe_ix ix_seq (pv 4) (pv 10) (fun _ _ => rfl)) (pa_cons (pv 14) pa_nil))))))) (pss_one (ps_ret pe_bl)) pss_nil)
      (pss_cons (ps_asg (pe_call G__law_row (hr.mono (by decide)) rfl m__law_row k__law_row b__law_row Paired.nil pass0 (pa_cons (pe_ix ix_seq (pv 6) (pv 10) (fun _ _ => rfl)) (pa_cons (pe_ix ix_seq (pv 4) (pv 10) (fun _ _ => rfl)) (pa_cons (pv 14) pa_nil)))) (pg_sub (pv 6) (pv 10) set_list))
      (pss_cons (ps_if (pt_not (pt_val (pe_call G__law_asked (hr.mono (by decide)) rfl m__law_asked k__law_asked b__law_asked Paired.nil pass0 (pa_cons (pe_ix ix_seq (pv 3) (pv 10) (fun _ _ => rfl)) (pa_cons (pe_ix ix_seq (pv 6) (pv 10) (fun _ _ => rfl)) (pa_cons (pe_ix ix_seq (pv 4) (pv 10) (fun _ _ => rfl)) (pa_cons (pv 11) (pa_cons (pv 12) pa_nil)))))))) (pss_one (ps_ret pe_bl)) pss_nil)
      (pss_cons (ps_set (i := 15) nd rfl (Or.inl rfl) (pe_callB (call_max2 rfl) rfl z_max bt_max (pa_cons pe_int (pa_cons (pe_op op_add (pe_op op_sub (pv 2) pe_int) (pe_op op_mod (pe_op op_fdiv (pe_ix ix_seq (pv 9) pe_int (fun _ _ => rfl)) pe_int) pe_int)) pa_nil))))
      (pss_cons (ps_set (i := 16) nd rfl (Or.inl rfl) (pe_ix ix_seq (pv 5) (pe_op op_mod (pe_op op_fdiv (pe_ix ix_seq (pv 9) pe_int (fun _ _ => rfl)) pe_int) pe_int) (fun _ _ => rfl)))
      (pss_one (ps_if (pt_not (pt_val (pe_call G__law_asked (hr.mono (by decide)) rfl m__law_asked k__law_asked b__law_asked Paired.nil pass0 (pa_cons (pe_ix ix_seq (pv 3) (pe_op op_sub pe_int (pv 10)) (fun _ _ => rfl)) (pa_cons (pe_ix ix_seq (pv 6) (pe_op op_sub pe_int (pv 10)) (fun _ _ => rfl)) (pa_cons (pe_ix ix_seq (pv 4) (pe_op op_sub pe_int (pv 10)) (fun _ _ => rfl)) (pa_cons (pv 16) (pa_cons (pv 15) pa_nil)))))))) (pss_one (ps_ret pe_bl)) pss_nil))))))))))))))))))
      (pss_one (ps_ret (pe_and (pe_call G__law_all_asked (hr.mono (by decide)) rfl m__law_all_asked k__law_all_asked b__law_all_asked Paired.nil pass0 (pa_cons (pe_ix ix_seq (pv 3) pe_int (fun _ _ => rfl)) (pa_cons (pe_ix ix_seq (pv 6) pe_int (fun _ _ => rfl)) (pa_cons (pe_ix ix_seq (pv 4) pe_int (fun _ _ => rfl)) (pa_cons (pv 2) pa_nil))))) (pe_one (pe_call G__law_all_asked (hr.mono (by decide)) rfl m__law_all_asked k__law_all_asked b__law_all_asked Paired.nil pass0 (pa_cons (pe_ix ix_seq (pv 3) pe_int (fun _ _ => rfl)) (pa_cons (pe_ix ix_seq (pv 6) pe_int (fun _ _ => rfl)) (pa_cons (pe_ix ix_seq (pv 1) pe_int (fun _ _ => rfl)) (pa_cons (pv 2) pa_nil)))))))))))))))))), ?_⟩
    have hline : 600 ≤ sizeLine := by decide
    refine ⟨_, rfl, a, ns, 0, rfl, hS, _, rfl, fun nl x y z H1 e1 hn _ _ _ => ?_⟩
    refine ⟨_, rfl, a, ns, 1, rfl, e1.seq hS, _, _, rfl, rfl, (by show (0 : Int) < 9970; decide), ?_⟩
    obtain ⟨base, hbase⟩ : ∃ base : Int, base = ns.getD 1 0 % 9970 := ⟨_, rfl⟩
    dsimp only
    rw [← hbase]
    have base0 : 0 ≤ base := by omega
    refine fun p dx hp0 hdx0 hdp => ⟨p, dx, "one", rfl, upd_same, fun d H2 hd0 R0 kp => ⟨rfl, ?_⟩⟩
    have e2 : Same H1 H2 := fun b o h => kp b o (by rw [upd_ne (some_ne h hp0), upd_ne (some_ne h hdx0)]; exact h) (some_ne h hp0)
    have d1 : H1 d = none := by
      cases hb : H1 d with
      | none => rfl
      | some o =>
        rw [upd_ne (some_ne hb hp0), upd_ne (some_ne hb hdx0), hb] at hd0
        cases hd0
    refine ⟨_, rfl, .inl ⟨nl, _, 2, _, rfl, rfl, SqL.of (e2 _ _ hn), rfl, fun p2 dx2 hp02 hdx02 hdp2 => ⟨p2, dx2, z, rfl, upd_same, fun d2 H3 hd02 R1 kp2 => ⟨rfl, (by show 2 ≤ sizeLine; decide), fun sl hsl0 => ?_⟩⟩⟩⟩
    have e3 : Same H2 H3 := fun b o h => kp2 b o (by rw [upd_ne (some_ne h hp02), upd_ne (some_ne h hdx02)]; exact h) (some_ne h hp02)
    have d21 : H2 d2 = none := by
      cases hb : H2 d2 with
      | none => rfl
      | some o =>
        rw [upd_ne (some_ne hb hp02), upd_ne (some_ne hb hdx02), hb] at hd02
        cases hd02
    have ndd : d ≠ d2 := some_ne R0.dc d21
    have R0 := R0.same e3
    have f4 := same_upd (o := .lst [.ref p, .ref p2]) hsl0
    have hsl : upd H3 sl (.lst [.ref p, .ref p2]) sl = some (.lst [.ref p, .ref p2]) := upd_same
    generalize upd H3 sl (.lst [.ref p, .ref p2]) = H4 at f4 hsl ⊢
    
    have e4 := e3.trans f4
    refine ⟨_, rfl, .inl ⟨nl, _, 2, _, rfl, rfl, SqL.of (e4 _ _ (e2 _ _ hn)), rfl, (by show 2 ≤ sizeLine; decide), fun tl htl0 => ?_⟩⟩
    have f5 := same_upd (o := .lst [.str "one", .str z]) htl0
    have htl : upd H4 tl (.lst [.str "one", .str z]) tl = some (.lst [.str "one", .str z]) := upd_same
    generalize upd H4 tl (.lst [.str "one", .str z]) = H5 at f5 htl ⊢
    
    have R0 := R0.same (f4.trans f5)
    have R1 := R1.same (f4.trans f5)
    have hsl := f5 _ _ hsl
    have hn := e4.trans f5 _ _ (e2 _ _ hn)
    obtain ⟨dxa, fsa, hpa, hta, hka, hnoa⟩ := R0.ob
    obtain ⟨dxb, fsb, hpb, htb, hkb, hnob⟩ := R1.ob
    refine ⟨_, rfl, .inl ⟨sl, _, 0, _, rfl, rfl, SqL.of hsl, rfl, p, C_Rates, _, _, _, rfl, hpa, cl_Rates, n_told, hta, rfl, _, rfl, ndecF rfl ?_⟩⟩
    refine ⟨_, rfl, .inl ⟨sl, _, 1, _, rfl, rfl, SqL.of hsl, rfl, p2, C_Rates, _, _, _, rfl, hpb, cl_Rates, n_told, htb, _, rfl, .inl ⟨nl, _, 2, _, rfl, rfl, SqL.of hn, rfl, rfl, _, rfl, ndecF rfl ?_⟩⟩⟩
    clear dxa fsa hpa hta hka hnoa dxb fsb hpb htb hkb hnob
    refine ⟨_, rfl, (by show 1 ≤ sizeLine; decide), fun l1 hl10 => ?_⟩
    have f6 := same_upd (o := .lst [.str "one"]) hl10
    have hl1 : upd H5 l1 (.lst [.str "one"]) l1 = some (.lst [.str "one"]) := upd_same
    generalize upd H5 l1 (.lst [.str "one"]) = H6 at f6 hl1 ⊢
    
    refine ⟨nl, l1, _, _, rfl, rfl, f6 _ _ hn, hl1, (by show 3 + 1 ≤ sizeLine; decide), fun cl hcl0 => ?_⟩
    have f7 := same_upd (o := .lst ([.str x, .str y, .str z] ++ [.str "one"])) hcl0
    have hcl : upd H6 cl (.lst ([.str x, .str y, .str z] ++ [.str "one"])) cl = some (.lst ([.str x, .str y, .str z] ++ [.str "one"])) := upd_same
    generalize upd H6 cl (.lst ([.str x, .str y, .str z] ++ [.str "one"])) = H7 at f7 hcl ⊢
    
    refine ⟨(by show 0 ≤ sizeLine; decide), fun r0 hr00 => ?_⟩
    have f8 := same_upd (o := .lst []) hr00
    have hr0 : upd H7 r0 (.lst []) r0 = some (.lst []) := upd_same
    generalize upd H7 r0 (.lst []) = H8 at f8 hr0 ⊢
    
    refine ⟨(by show 0 ≤ sizeLine; decide), fun r1 hr10 => ?_⟩
    have f9 := same_upd (o := .lst []) hr10
    have hr1 : upd H8 r1 (.lst []) r1 = some (.lst []) := upd_same
    generalize upd H8 r1 (.lst []) = H9 at f9 hr1 ⊢
    
    refine ⟨(by show 2 ≤ sizeLine; decide), fun rr hrr0 => ?_⟩
    have f10 := same_upd (o := .lst [.ref r0, .ref r1]) hrr0
    have hrr : upd H9 rr (.lst [.ref r0, .ref r1]) rr = some (.lst [.ref r0, .ref r1]) := upd_same
    generalize upd H9 rr (.lst [.ref r0, .ref r1]) = H10 at f10 hrr ⊢
    
    have g5 := ((((f6.trans f7).trans f8).trans f9).trans f10)
    refine ⟨_, rfl, .inl ⟨nl, _, 0, _, rfl, rfl, SqL.of (g5 _ _ hn), rfl, _, rfl, (by show 4 ≤ sizeLine; decide), fun t0 ht00 => ?_⟩⟩
    have f11 := same_upd (o := .tup [.str x, .int base, .int 3, .int 2]) ht00
    have ht0 : upd H10 t0 (.tup [.str x, .int base, .int 3, .int 2]) t0 = some (.tup [.str x, .int base, .int 3, .int 2]) := upd_same
    generalize upd H10 t0 (.tup [.str x, .int base, .int 3, .int 2]) = H11 at f11 ht0 ⊢
    
    refine ⟨_, rfl, .inl ⟨nl, _, 1, _, rfl, rfl, SqL.of (f11 _ _ (g5 _ _ hn)), rfl, _, rfl, (by show 4 ≤ sizeLine; decide), fun t1 ht10 => ?_⟩⟩
    have f12 := same_upd (o := .tup [.str y, .int base, .int 1, .non]) ht10
    have ht1 : upd H11 t1 (.tup [.str y, .int base, .int 1, .non]) t1 = some (.tup [.str y, .int base, .int 1, .non]) := upd_same
    generalize upd H11 t1 (.tup [.str y, .int base, .int 1, .non]) = H12 at f12 ht1 ⊢
    
    refine ⟨(by show 2 ≤ sizeLine; decide), fun ll hll0 => ?_⟩
    have f13 := same_upd (o := .lst [.ref t0, .ref t1]) hll0
    have hll : upd H12 ll (.lst [.ref t0, .ref t1]) ll = some (.lst [.ref t0, .ref t1]) := upd_same
    generalize upd H12 ll (.lst [.ref t0, .ref t1]) = H13 at f13 hll ⊢
    
    have g10 := (f11.trans f12).trans f13
    have g5b := g5.trans g10
    obtain ⟨P, rfl, rfl⟩ : ∃ P : Nat → Addr, P 0 = p ∧ P 1 = p2 := ⟨fun j => if j = 0 then p else p2, rfl, rfl⟩
    obtain ⟨D, rfl, rfl⟩ : ∃ D : Nat → Addr, D 0 = d ∧ D 1 = d2 := ⟨fun j => if j = 0 then d else d2, rfl, rfl⟩
    obtain ⟨T, hT0, rfl⟩ : ∃ T : Nat → Str, T 0 = "one" ∧ T 1 = z := ⟨fun j => if j = 0 then "one" else z, rfl, rfl⟩
    rw [← hT0] at htl R0
    obtain ⟨RL0, rfl, rfl⟩ : ∃ RL0 : Nat → Addr, RL0 0 = r0 ∧ RL0 1 = r1 := ⟨fun j => if j = 0 then r0 else r1, rfl, rfl⟩
    obtain ⟨TT0, hTT0, hTT1⟩ : ∃ TT0 : Nat → Tl, TT0 0 = (t0, x, base, 3, some 2) ∧ TT0 1 = (t1, y, base, 1, none) := ⟨fun j => if j = 0 then (t0, x, base, 3, some 2) else (t1, y, base, 1, none), rfl, rfl⟩
    have nlr : rr ≠ ll := some_ne (f12 _ _ (f11 _ _ hrr)) hll0
    have q8 := (f9.trans f10).trans g10
    have q9 := f10.trans g10
    have L0 : Lw K C_Rates H13 P D T rr ll RL0 (fun _ => []) TT0 0 := by
      refine ⟨fun j hj => ?_, fun j hj => Nat.le_refl _, fun j hj => ?_, ndd, nlr, g10 _ _ hrr, ?_, fun j hj => ?_, fun j hj => ?_⟩
      · rcases two hj with rfl | rfl
        · exact ⟨R0.same g5b, q8 _ _ hr0, (fun z hz => nomatch hz), (fun z hz => nomatch hz), Nat.zero_le _⟩
        · exact ⟨R1.same g5b, q9 _ _ hr1, (fun z hz => nomatch hz), (fun z hz => nomatch hz), Nat.zero_le _⟩
      · rcases two hj with rfl | rfl
        · exact ⟨some_ne (f9 _ _ hr0) hrr0, some_ne (f12 _ _ (f11 _ _ (f10 _ _ (f9 _ _ hr0)))) hll0⟩
        · exact ⟨some_ne hr1 hrr0, some_ne (f12 _ _ (f11 _ _ (f10 _ _ hr1))) hll0⟩
      · rw [hTT0, hTT1]
        exact hll
      · rcases two hj with rfl | rfl
        · rw [hTT0]
          exact f13 _ _ (f12 _ _ ht0)
        · rw [hTT1]
          exact f13 _ _ ht1
      · rcases two hj with rfl | rfl
        · rw [hTT0]
          exact ⟨base0, (by show (3 : Int) ≤ 10 ^ 9; decide), (by show (2 : Int) ≤ 10 ^ 9; decide)⟩
        · rw [hTT1]
          exact ⟨base0, (by show (1 : Int) ≤ 10 ^ 9; decide), (by show (1 : Int) ≤ 10 ^ 9; decide)⟩
    have k5 : ∀ b xs, H5 b = some (.lst xs) → H13 b = some (.lst xs) ∧ b ≠ D 0 ∧ b ≠ D 1 ∧ b ≠ rr ∧ b ≠ ll := fun b xs h =>
      ⟨g5b _ _ h, ne_of h R0.dc (by intro z; cases z), ne_of h R1.dc (by intro z; cases z), some_ne (f9 _ _ (f8 _ _ (f7 _ _ (f6 _ _ h)))) hrr0, some_ne (f12 _ _ (f11 _ _ (g5 _ _ h))) hll0⟩
    have kS : ∀ {H' : Hp}, Kp D rr ll H13 H' → Same H1 H' := fun kk b o h => by
      have h5 := (e4.trans f5) _ _ (e2 _ _ h)
      exact kk b o (g5b _ _ h5) (some_ne h d1) (some_ne (e2 _ _ h) d21) (some_ne (f9 _ _ (f8 _ _ (f7 _ _ (f6 _ _ h5)))) hrr0) (some_ne (f12 _ _ (f11 _ _ (g5 _ _ h5))) hll0)
    have kL : ∀ {H' : Hp}, Kp D rr ll H13 H' → ∀ b xs, H5 b = some (.lst xs) → H' b = some (.lst xs) := fun kk b xs h => by
      obtain ⟨h1, h2, h3, h4, h5⟩ := k5 b xs h
      exact kk b _ h1 h2 h3 h4 h5
    have kC : ∀ {H' : Hp}, Kp D rr ll H13 H' → H' cl = some (.lst ([.str x, .str y, .str (T 1)] ++ [.str "one"])) := fun kk =>
      kk _ _ (q8 _ _ (f8 _ _ hcl)) (ne_of hcl (f7 _ _ (f6 _ _ R0.dc)) (by intro z; cases z)) (ne_of hcl (f7 _ _ (f6 _ _ R1.dc)) (by intro z; cases z)) (some_ne (f9 _ _ (f8 _ _ hcl)) hrr0) (some_ne (f12 _ _ (f11 _ _ (f10 _ _ (f9 _ _ (f8 _ _ hcl))))) hll0)
    have kp0 : Kp D rr ll H13 H13 := fun b o h _ _ _ _ => h
    clear f4 f5 f6 f7 f8 f9 f10 f11 f12 f13 g5 g10 g5b q8 q9 e3 e4 kp kp2 hp0 hdx0 hdp hp02 hdx02 hdp2 hd0 hd02 hsl0 htl0 hl10 hcl0 hr00 hr10 hrr0 ht00 ht10 hll0 hr0 hr1 hrr ht0 ht1 hll k5
    have ct : (cutV (ns.map V.int) (some 2) (some 62)).length = min 62 ns.length - min 2 ns.length := cut_nat ns 2 62
    refine ⟨_, rfl, _, rfl, _, rfl, a, _, rfl, (e1.trans (kS kp0)).seq hS, fun c9 hc9 => ⟨c9, _, rfl, .inl (SqL.of upd_same), _, _, rfl, rfl, ⟨by decide, by decide⟩, _, rfl, by omega, by omega, ?_⟩⟩
    have f9 := same_upd (o := .lst (cutV (ns.map V.int) (some 2) (some 62))) hc9
    refine for_range (fun i σ H' => ∃ (o8 o9 o10 o11 o12 o13 o14 o15 o16 : Option V) (RL : Nat → Addr) (W : Nat → List Wd) (TT : Nat → Tl), σ = [some (.ref a), some (.ref nl), some (.int base), some (.ref sl), some (.ref tl), some (.ref cl), some (.ref rr), some (.ref ll), o8, o9, o10, o11, o12, o13, o14, o15, o16] ∧ Kp D rr ll H13 H' ∧ Lw K C_Rates H' P D T rr ll RL W TT i) ⟨_, _, _, _, _, _, _, _, _, RL0, _, TT0, rfl, fun b o h _ _ _ _ => f9 _ _ h, L0.same f9⟩ ?_ ?_
    · clear L0 f9 hc9
      rintro i σ H6 hi ⟨o8, o9, o10, o11, o12, o13, o14, o15, o16, RL, W, TT, rfl, K6, L6⟩
      have hi16 : i < 16 := by omega
      have cn := cut_nat ns (2 + 4 * i) (6 + 4 * i)
      rw [show ((2 + 4 * i : Nat) : Int) = 2 + 4 * (0 + (i : Int)) by omega, show ((6 + 4 * i : Nat) : Int) = 6 + 4 * (0 + (i : Int)) by omega] at cn
      obtain ⟨us, hu, _, mu⟩ := cut_ints ns (some (2 + 4 * (0 + (i : Int)))) (some (6 + 4 * (0 + (i : Int))))
      rw [hu, List.length_map] at cn
      have hu4 : us.length = 4 := by omega
      refine ⟨_, rfl, _, rfl, _, _, rfl, rfl, mul_of (by omega) (by omega) (by omega) (by omega), _, _, rfl, rfl, _, rfl, _, rfl, _, _, rfl, rfl, mul_of (by omega) (by omega) (by omega) (by omega), _, _, rfl, rfl, _, rfl, a, _, rfl, (e1.trans (kS K6)).seq hS, fun cu hcu => ?_⟩
      rw [hu]
      obtain ⟨c0, m0, hc0⟩ := int_in (ws := us) (i := 0) (by omega) (by omega)
      obtain ⟨c1, m1, hc1⟩ := int_in (ws := us) (i := 1) (by omega) (by omega)
      obtain ⟨c2, m2, hc2⟩ := int_in (ws := us) (i := 2) (by omega) (by omega)
      obtain ⟨c3, m3, hc3⟩ := int_in (ws := us) (i := 3) (by omega) (by omega)
      have f7 := same_upd (o := .lst (us.map V.int)) hcu
      have hcu7 : upd H6 cu (.lst (us.map V.int)) cu = some (.lst (us.map V.int)) := upd_same
      generalize upd H6 cu (.lst (us.map V.int)) = H7 at f7 hcu7 ⊢
      have K7 : Kp D rr ll H13 H7 := fun b o h n1 n2 n3 n4 => f7 _ _ (K6 b o h n1 n2 n3 n4)
      have L7 := L6.same f7
      clear K6 L6 f7 hcu
      refine ⟨_, rfl, .inl ⟨cu, _, 0, _, rfl, rfl, SqL.of hcu7, hc0, _, _, rfl, rfl, (by show (0 : Int) < 2; decide), ?_⟩⟩
      obtain ⟨j, hjE⟩ : ∃ j : Nat, c0 % 2 = (j : Int) := Int.eq_ofNat_of_zero_le (Int.emod_nonneg _ (by decide))
      have hj : j < 2 := by
        have := Int.emod_lt_of_pos c0 (show (0 : Int) < 2 by decide)
        omega
      dsimp only
      rw [hjE]
      obtain ⟨co0, hco0⟩ := at4 (x := x) (y := y) (z := T 1) (o := "one") (c0 / 2)
      refine ⟨_, rfl, _, rfl, .inl ⟨cu, _, 0, _, rfl, rfl, SqL.of hcu7, hc0, _, _, rfl, rfl, ⟨by decide, by decide⟩, _, _, rfl, rfl, (by show (0 : Int) < 4; decide), .inl ⟨cl, _, _, _, rfl, rfl, SqL.of (kC K7), hco0, ?_⟩⟩⟩
      refine ⟨_, rfl, _, rfl, .inl ⟨cu, _, 1, _, rfl, rfl, SqL.of hcu7, hc1, _, _, rfl, rfl, (by show (0 : Int) < 12; decide), _, _, rfl, rfl, ?_⟩⟩
      obtain ⟨dy0, hdy0⟩ : ∃ dy : Int, dy = base + c1 % 12 := ⟨_, rfl⟩
      dsimp only
      rw [← hdy0]
      refine ⟨_, rfl, .inl ⟨cu, _, 3, _, rfl, rfl, SqL.of hcu7, hc3, _, rfl, fun bt b1 b2 => ?_⟩⟩
      apply join1 (fun ob : Option Int => ob.getD 1 ≤ 10 ^ 9)
      · intro rest
        refine ⟨_, rfl, .inl ⟨cu, _, 3, _, rfl, rfl, SqL.of hcu7, hc3, _, _, rfl, rfl, (by show (0 : Int) < 9; decide), rfl, _, rfl, ?_⟩⟩
        refine dec2 (fun h => ?_) (fun h => ?_)
        · obtain ⟨ob, eo⟩ : ∃ ob, bV ob = V.non := ⟨none, rfl⟩
          rw (occs := .pos [1]) [← eo]
          exact rest ob (ob_none eo)
        · exact rest (some bt) b1
      intro ob0 hob0
      refine ⟨_, rfl, _, rfl, _, rfl, .inl ⟨cu, _, 2, _, rfl, rfl, SqL.of hcu7, hc2, _, rfl, fun tp0 tp1 tp2 => ⟨_, rfl, (by show 4 ≤ sizeLine; decide), fun ta0 hta0 => ?_⟩⟩⟩
      have f8 := same_upd (o := .tup [.str co0, .int dy0, .int tp0, bV ob0]) hta0
      have hta8 : upd H7 ta0 (.tup [.str co0, .int dy0, .int tp0, bV ob0]) ta0 = some (.tup [.str co0, .int dy0, .int tp0, bV ob0]) := upd_same
      generalize upd H7 ta0 (.tup [.str co0, .int dy0, .int tp0, bV ob0]) = H8 at f8 hta8 ⊢
      have K8 : Kp D rr ll H13 H8 := fun b o h n1 n2 n3 n4 => f8 _ _ (K7 b o h n1 n2 n3 n4)
      have L8 := L7.same f8
      have hcu8 := f8 _ _ hcu7
      clear K7 L7 f8 hta0 hcu7
      apply join3 (fun (ta : Addr) (co : Str) (dy : Int) => ∃ (tp : Int) (ob : Option Int), tellO ta co dy tp ob H8 ∧ 0 ≤ dy ∧ tp ≤ 10 ^ 9 ∧ ob.getD 1 ≤ 10 ^ 9)
      · intro rest
        refine ⟨_, rfl, .inl ⟨cu, _, 0, _, rfl, rfl, SqL.of hcu8, hc0, _, _, rfl, rfl, ⟨by decide, by decide⟩, _, _, rfl, rfl, (by show (0 : Int) < 6; decide), rfl, _, rfl, ?_⟩⟩
        refine dec2 (fun h => ?_) (fun h => ?_)
        rotate_left
        · obtain ⟨ta, eta⟩ : ∃ x, x = ta0 := ⟨_, rfl⟩
          obtain ⟨co, eco⟩ : ∃ x, x = co0 := ⟨_, rfl⟩
          obtain ⟨dy, edy⟩ : ∃ x, x = dy0 := ⟨_, rfl⟩
          rw [← eta, ← eco, ← edy]
          refine rest ta co dy ?_
          rw [eta, eco, edy]
          exact ⟨tp0, ob0, hta8, by omega, tp1, hob0⟩
        · refine ⟨_, rfl, _, rfl, .inl ⟨ll, _, _, _, rfl, rfl, SqL.of L8.l, at2 (fun i => V.ref (TT i).1) hj, ?_⟩⟩
          have hT := SqT.of (K := K) (show H8 (TT j).1 = some (.tup [.str (TT j).2.1, .int (TT j).2.2.1, .int (TT j).2.2.2.1, bV (TT j).2.2.2.2]) from L8.t j hj)
          refine ⟨_, rfl, .inr (.inl ⟨(TT j).1, _, 0, _, rfl, rfl, hT, rfl, ?_⟩)⟩
          refine ⟨_, rfl, .inr (.inl ⟨(TT j).1, _, 1, _, rfl, rfl, hT, rfl, ?_⟩)⟩
          exact rest (TT j).1 (TT j).2.1 (TT j).2.2.1 ⟨(TT j).2.2.2.1, (TT j).2.2.2.2, L8.t j hj, L8.b j hj⟩
      clear hta8 hob0 tp1 tp2 b1 b2 hco0 hdy0
      rintro ta co dy ⟨tp, ob, hta, hdy, htp, hob⟩
      refine ⟨_, rfl, _, rfl, _, rfl, ll, _, _, _, rfl, rfl, L8.l, ix2 hj, ?_⟩
      have L9 := L8.last hj (z := (ta, co, dy, tp, ob)) hta ⟨hdy, htp, hob⟩
      have K9 : Kp D rr ll H13 (upd H8 ll (.lst ([V.ref (TT 0).1, V.ref (TT 1).1].set j (.ref ta)))) := fun b o h n1 n2 n3 n4 => by
        rw [upd_ne n4]
        exact K8 b o h n1 n2 n3 n4
      have ht9 : tellO ta co dy tp ob (upd H8 ll (.lst ([V.ref (TT 0).1, V.ref (TT 1).1].set j (.ref ta)))) := tell_updL hta L8.l
      have hcu9 : upd H8 ll (.lst ([V.ref (TT 0).1, V.ref (TT 1).1].set j (.ref ta))) cu = some (.lst (us.map V.int)) := by
        rw [upd_ne]
        · exact hcu8
        · intro zz
          have l8 := L8.l
          rw [← zz, hcu8] at l8
          have := congrArg List.length (HO.lst.inj (Option.some.inj l8))
          rw [List.length_map, hu4] at this
          exact absurd this (by show ¬ (4 = 2); decide)
      generalize upd H8 ll (.lst ([V.ref (TT 0).1, V.ref (TT 1).1].set j (.ref ta))) = HA at L9 K9 ht9 hcu9 ⊢
      clear L8 K8 hcu8 hta
      refine ⟨_, rfl, _, rfl, .inl ⟨sl, _, _, _, rfl, rfl, SqL.of (kL K9 _ _ hsl), at2 (fun i => V.ref (P i)) hj, _, rfl, _, rfl, .inl ⟨rr, _, _, _, rfl, rfl, SqL.of L9.r, at2 (fun i => V.ref (RL i)) hj, _, rfl, _, rfl, .inl ⟨tl, _, _, _, rfl, rfl, SqL.of (kL K9 _ _ htl), at2 (fun i => V.str (T i)) hj, _, rfl, _, rfl, P (j), D (j), RL (j), T (j), co, dy, W (j), rfl, L9.s _ hj, fun HB eB => ⟨true, rfl, iteF ?_⟩⟩⟩⟩⟩
      have LB := L9.same eB
      have KB : Kp D rr ll H13 HB := fun b o h n1 n2 n3 n4 => eB _ _ (K9 b o h n1 n2 n3 n4)
      have htB : tellO ta co dy tp ob HB := eB _ _ ht9
      have hcuB := eB _ _ hcu9
      clear L9 K9 ht9 hcu9
      apply join1 (fun HC : Hp => ∃ (RL : Nat → Addr) (W : Nat → List Wd), Kp D rr ll H13 HC ∧ Lw K C_Rates HC P D T rr ll RL W (put TT j (ta, co, dy, tp, ob)) (i + 1) ∧ HC cu = some (.lst (us.map V.int)))
      · intro rest
        have ncr : cu ≠ rr := fun zz => by
          have r8 := LB.r
          rw [← zz, hcuB] at r8
          have := congrArg List.length (HO.lst.inj (Option.some.inj r8))
          rw [List.length_map, hu4] at this
          exact absurd this (by show ¬ (4 = 2); decide)
        refine ⟨_, rfl, _, rfl, .inl ⟨sl, _, _, _, rfl, rfl, SqL.of (kL KB _ _ hsl), at2 (fun i => V.ref (P i)) hj, _, rfl, _, rfl, .inl ⟨rr, _, _, _, rfl, rfl, SqL.of LB.r, at2 (fun i => V.ref (RL i)) hj, _, rfl, _, rfl, .inl ⟨tl, _, _, _, rfl, rfl, SqL.of (kL KB _ _ htl), at2 (fun i => V.str (T i)) hj, _, rfl, P j, D j, RL j, ta, T j, co, dy, tp, ob, W j, rfl, LB.s j hj, htB, (by omega), (fun hrf HC eC => ⟨true, rfl, iteF ?_⟩), fun nb htf r HC hr hR hk => ⟨true, rfl, iteF ?_⟩⟩⟩⟩⟩
        · have LC := LB.same eC
          have KC : Kp D rr ll H13 HC := fun b o h n1 n2 n3 n4 => eC _ _ (KB b o h n1 n2 n3 n4)
          have s := LC.s j hj
          refine ⟨_, rfl, _, rfl, .inl ⟨rr, _, _, _, rfl, rfl, SqL.of LC.r, at2 (fun i => V.ref (RL i)) hj, _, rfl, _, rfl, .inl ⟨tl, _, _, _, rfl, rfl, SqL.of (kL KC _ _ htl), at2 (fun i => V.str (T i)) hj, _, rfl, RL j, ta, T j, co, dy, tp, ob, W j, rfl, s.rl, s.ro, s.ln, eC _ _ htB, (by omega), (by omega), (fun _ => ?_), fun nb htf => (hrf.elim (fun z => absurd z nb) fun z => by rw [htf] at z; cases z)⟩⟩⟩
          refine ⟨_, rfl, _, rfl, rr, _, _, _, rfl, rfl, LC.r, ix2 hj, ?_⟩
          have LD := LC.refused hj
          have KD : Kp D rr ll H13 (upd HC rr (.lst ([V.ref (RL 0), V.ref (RL 1)].set j (.ref (RL j))))) := fun b o h n1 n2 n3 n4 => by
            rw [upd_ne n3]
            exact KC b o h n1 n2 n3 n4
          have cD : upd HC rr (.lst ([V.ref (RL 0), V.ref (RL 1)].set j (.ref (RL j)))) cu = some (.lst (us.map V.int)) := by
            rw [upd_ne ncr]
            exact eC _ _ hcuB
          generalize upd HC rr (.lst ([V.ref (RL 0), V.ref (RL 1)].set j (.ref (RL j)))) = HD at LD KD cD ⊢
          exact rest HD ⟨RL, W, KD, LD, cD⟩
        · have sB := LB.s j hj
          have dB := sB.ra.dc
          have kl : ∀ b o, HB b = some o → (∀ l, o ≠ .dT l) → HC b = some o := fun b o h z => hk b o h (ne_of h dB (z _))
          have rC := kl _ _ LB.r (fun l z => by cases z)
          have slC := kl _ _ (kL KB _ _ htl) (fun l z => by cases z)
          have tC : tellO ta co dy tp ob HC := kl _ _ htB (fun l z => by cases z)
          refine ⟨_, rfl, _, rfl, .inl ⟨rr, _, _, _, rfl, rfl, SqL.of rC, at2 (fun i => V.ref (RL i)) hj, _, rfl, _, rfl, .inl ⟨tl, _, _, _, rfl, rfl, SqL.of slC, at2 (fun i => V.str (T i)) hj, _, rfl, RL j, ta, T j, co, dy, tp, ob, W j, rfl, kl _ _ sB.rl (fun l z => by cases z), (fun z hz => ⟨kl _ _ (sB.ro z hz).1 (fun l w => by cases w), kl _ _ (sB.ro z hz).2 (fun l w => by cases w)⟩), sB.ln, tC, (by omega), (by omega), (fun hrf => (hrf.elim (fun z => absurd z nb) fun z => by rw [htf] at z; cases z)), fun _ _ n a2 HE eE hn0 ha2 hn2 => ?_⟩⟩⟩
          refine ⟨_, rfl, _, rfl, rr, _, _, _, rfl, rfl, eE _ _ rC, ix2 hj, ?_⟩
          have LD := LB.taken hj hk hR hr eE hn0 ha2 hn2 hdy (by omega)
          have KD : Kp D rr ll H13 (upd HE rr (.lst ([V.ref (RL 0), V.ref (RL 1)].set j (.ref n)))) := fun b o h n1 n2 n3 n4 => by
            rw [upd_ne n3]
            refine eE _ _ (hk b o (KB b o h n1 n2 n3 n4) ?_)
            rcases two hj with rfl | rfl
            · exact n1
            · exact n2
          have cD : upd HE rr (.lst ([V.ref (RL 0), V.ref (RL 1)].set j (.ref n))) cu = some (.lst (us.map V.int)) := by
            rw [upd_ne ncr]
            exact eE _ _ (kl _ _ hcuB (fun l z => by cases z))
          generalize upd HE rr (.lst ([V.ref (RL 0), V.ref (RL 1)].set j (.ref n))) = HD at LD KD cD ⊢
          exact rest HD ⟨_, _, KD, LD, cD⟩
      clear LB KB htB hcuB eB
      rintro HC ⟨RL2, W2, KC, LC, hcuC⟩
      refine ⟨_, rfl, _, rfl, .inl ⟨sl, _, _, _, rfl, rfl, SqL.of (kL KC _ _ hsl), at2 (fun i => V.ref (P i)) hj, _, rfl, _, rfl, .inl ⟨rr, _, _, _, rfl, rfl, SqL.of LC.r, at2 (fun i => V.ref (RL2 i)) hj, _, rfl, _, rfl, .inl ⟨tl, _, _, _, rfl, rfl, SqL.of (kL KC _ _ htl), at2 (fun i => V.str (T i)) hj, _, rfl, _, rfl, P (j), D (j), RL2 (j), T (j), co, dy, W2 (j), rfl, LC.s _ hj, fun HD eD => ⟨true, rfl, iteF ?_⟩⟩⟩⟩⟩
      have LD := LC.same eD
      have KD : Kp D rr ll H13 HD := fun b o h n1 n2 n3 n4 => eD _ _ (KC b o h n1 n2 n3 n4)
      have hcuD := eD _ _ hcuC
      clear LC KC hcuC
      refine ⟨_, rfl, _, _, rfl, rfl, _, rfl, .inl ⟨cu, _, 1, _, rfl, rfl, SqL.of hcuD, hc1, _, _, rfl, rfl, ⟨by decide, by decide⟩, _, _, rfl, rfl, (by show (0 : Int) < 14; decide), _, _, rfl, rfl, _, _, rfl, ?_⟩⟩
      obtain ⟨co2, hco2⟩ := at4 (x := x) (y := y) (z := T 1) (o := "one") (c0 / 8)
      refine ⟨_, rfl, _, rfl, .inl ⟨cu, _, 0, _, rfl, rfl, SqL.of hcuD, hc0, _, _, rfl, rfl, ⟨by decide, by decide⟩, _, _, rfl, rfl, (by show (0 : Int) < 4; decide), .inl ⟨cl, _, _, _, rfl, rfl, SqL.of (kC KD), hco2, ?_⟩⟩⟩
      refine ⟨_, rfl, _, rfl, _, _, rfl, rfl, .inl ⟨sl, _, _, _, rfl, rfl, SqL.of (kL KD _ _ hsl), at2r (fun i => V.ref (P i)) hj, _, rfl, _, rfl, _, _, rfl, rfl, .inl ⟨rr, _, _, _, rfl, rfl, SqL.of LD.r, at2r (fun i => V.ref (RL2 i)) hj, _, rfl, _, rfl, _, _, rfl, rfl, .inl ⟨tl, _, _, _, rfl, rfl, SqL.of (kL KD _ _ htl), at2r (fun i => V.str (T i)) hj, _, rfl, _, rfl, P (1 - j), D (1 - j), RL2 (1 - j), T (1 - j), co2, _, W2 (1 - j), rfl, LD.s _ (by omega), fun HE eE => ⟨true, rfl, iteF ?_⟩⟩⟩⟩⟩
      exact ⟨_, _, _, _, _, _, _, _, _, RL2, W2, _, rfl, fun b o h n1 n2 n3 n4 => eE _ _ (KD b o h n1 n2 n3 n4), LD.same eE⟩
    rintro σ H6 ⟨o8, o9, o10, o11, o12, o13, o14, o15, o16, RL, W, TT, rfl, K6, L6⟩
    have hs6 := kL K6 _ _ hsl
    have ht6 := kL K6 _ _ htl
    have hn6 := kL K6 _ _ hn
    refine ⟨_, rfl, .inl ⟨sl, _, 0, _, rfl, rfl, SqL.of hs6, rfl, _, rfl, .inl ⟨rr, _, 0, _, rfl, rfl, SqL.of L6.r, rfl, _, rfl, .inl ⟨tl, _, 0, _, rfl, rfl, SqL.of ht6, rfl, _, rfl, P 0, D 0, RL 0, T 0, base, W 0, rfl, L6.s 0 (by decide), fun H7 e7 => ⟨true, rfl, iteT ?_⟩⟩⟩⟩⟩
    have L7 := L6.same e7
    exact ⟨_, rfl, .inl ⟨sl, _, 1, _, rfl, rfl, SqL.of (e7 _ _ hs6), rfl, _, rfl, .inl ⟨rr, _, 1, _, rfl, rfl, SqL.of L7.r, rfl, _, rfl, .inl ⟨nl, _, 2, _, rfl, rfl, SqL.of (e7 _ _ hn6), rfl, _, rfl, P 1, D 1, RL 1, T 1, base, W 1, rfl, L7.s 1 (by decide), fun H8 _ => q _⟩⟩⟩⟩
end
theorem all_mk {l : PySem.W.OpenLaw} {w : World} {K : PySem.W.Frag} {h : Heap} {mg : Str → Option Value} {fa : Addr} {C_BadAmount C_BadPaper C_BooksError C_Broken C_Closed C_NoAccount C_NoDeed C_NoFirm C_NoGoods C_NoNumber C_NoRate C_NoRow C_NoSister C_Rates C_Ringed C_Singular C_TooFew C_Twice C_Unbalanced C_Unheld : Addr} {f_divisor : Addr} {oc_divisor kV_divisor dc_divisor pm_divisor cd_divisor ct_divisor : Value} {od_divisor an_divisor : Option Addr} {sl_divisor : Array (Option Value)} {f_fraction : Addr} {oc_fraction kV_fraction dc_fraction pm_fraction cd_fraction ct_fraction : Value} {od_fraction an_fraction : Option Addr} {sl_fraction : Array (Option Value)} {T_fraction : Addr} {odT_fraction : Option Addr} {nT_fraction : Nat} {slT_fraction : Array (Option Value)} {tkT_fraction : Tok} {f_NoRate__init__ : Addr} {oc_NoRate__init__ kV_NoRate__init__ dc_NoRate__init__ pm_NoRate__init__ cd_NoRate__init__ ct_NoRate__init__ : Value} {od_NoRate__init__ an_NoRate__init__ : Option Addr} {sl_NoRate__init__ : Array (Option Value)} {f_Twice__init__ : Addr} {oc_Twice__init__ kV_Twice__init__ dc_Twice__init__ pm_Twice__init__ cd_Twice__init__ ct_Twice__init__ : Value} {od_Twice__init__ an_Twice__init__ : Option Addr} {sl_Twice__init__ : Array (Option Value)} {f_Rates_rate : Addr} {oc_Rates_rate kV_Rates_rate dc_Rates_rate pm_Rates_rate cd_Rates_rate ct_Rates_rate : Value} {od_Rates_rate an_Rates_rate : Option Addr} {sl_Rates_rate : Array (Option Value)} {f_Rates___init__ : Addr} {oc_Rates___init__ kV_Rates___init__ dc_Rates___init__ pm_Rates___init__ cd_Rates___init__ ct_Rates___init__ : Value} {od_Rates___init__ an_Rates___init__ : Option Addr} {sl_Rates___init__ : Array (Option Value)} {T_Rates___init__ : Addr} {odT_Rates___init__ : Option Addr} {nT_Rates___init__ : Nat} {slT_Rates___init__ : Array (Option Value)} {tkT_Rates___init__ : Tok} {f_Rates_tell : Addr} {oc_Rates_tell kV_Rates_tell dc_Rates_tell pm_Rates_tell cd_Rates_tell ct_Rates_tell : Value} {od_Rates_tell an_Rates_tell : Option Addr} {sl_Rates_tell : Array (Option Value)} {T_Rates_tell : Addr} {odT_Rates_tell : Option Addr} {nT_Rates_tell : Nat} {slT_Rates_tell : Array (Option Value)} {tkT_Rates_tell : Tok} {f__law_names : Addr} {oc__law_names kV__law_names dc__law_names pm__law_names cd__law_names ct__law_names : Value} {od__law_names an__law_names : Option Addr} {sl__law_names : Array (Option Value)} {f__law_cell : Addr} {oc__law_cell kV__law_cell dc__law_cell pm__law_cell cd__law_cell ct__law_cell : Value} {od__law_cell an__law_cell : Option Addr} {sl__law_cell : Array (Option Value)} {f__law_whole : Addr} {oc__law_whole kV__law_whole dc__law_whole pm__law_whole cd__law_whole ct__law_whole : Value} {od__law_whole an__law_whole : Option Addr} {sl__law_whole : Array (Option Value)} {f__law_divisor : Addr} {oc__law_divisor kV__law_divisor dc__law_divisor pm__law_divisor cd__law_divisor ct__law_divisor : Value} {od__law_divisor an__law_divisor : Option Addr} {sl__law_divisor : Array (Option Value)} {f__law_top : Addr} {oc__law_top kV__law_top dc__law_top pm__law_top cd__law_top ct__law_top : Value} {od__law_top an__law_top : Option Addr} {sl__law_top : Array (Option Value)} {f__law_other : Addr} {oc__law_other kV__law_other dc__law_other pm__law_other cd__law_other ct__law_other : Value} {od__law_other an__law_other : Option Addr} {sl__law_other : Array (Option Value)} {f__law_named : Addr} {oc__law_named kV__law_named dc__law_named pm__law_named cd__law_named ct__law_named : Value} {od__law_named an__law_named : Option Addr} {sl__law_named : Array (Option Value)} {f__law_due : Addr} {oc__law_due kV__law_due dc__law_due pm__law_due cd__law_due ct__law_due : Value} {od__law_due an__law_due : Option Addr} {sl__law_due : Array (Option Value)} {f__law_asked : Addr} {oc__law_asked kV__law_asked dc__law_asked pm__law_asked cd__law_asked ct__law_asked : Value} {od__law_asked an__law_asked : Option Addr} {sl__law_asked : Array (Option Value)} {f__law_answer : Addr} {oc__law_answer kV__law_answer dc__law_answer pm__law_answer cd__law_answer ct__law_answer : Value} {od__law_answer an__law_answer : Option Addr} {sl__law_answer : Array (Option Value)} {f__law_told : Addr} {oc__law_told kV__law_told dc__law_told pm__law_told cd__law_told ct__law_told : Value} {od__law_told an__law_told : Option Addr} {sl__law_told : Array (Option Value)} {f__law_row : Addr} {oc__law_row kV__law_row dc__law_row pm__law_row cd__law_row ct__law_row : Value} {od__law_row an__law_row : Option Addr} {sl__law_row : Array (Option Value)} {f__law_all_asked : Addr} {oc__law_all_asked kV__law_all_asked dc__law_all_asked pm__law_all_asked cd__law_all_asked ct__law_all_asked : Value} {od__law_all_asked an__law_all_asked : Option Addr} {sl__law_all_asked : Array (Option Value)} {f_law : Addr} {oc_law kV_law dc_law pm_law cd_law ct_law : Value} {od_law an_law : Option Addr} {sl_law : Array (Option Value)} (X : K.In h) (G : h.Ns mainGlobals mg) (hfa : mg "law" = some (.ref fa))
    (a_BadAmount : PySem.W.nsIn K mainGlobals "BadAmount" = some (some (.ref C_BadAmount))) (a_BadPaper : PySem.W.nsIn K mainGlobals "BadPaper" = some (some (.ref C_BadPaper))) (a_BooksError : PySem.W.nsIn K mainGlobals "BooksError" = some (some (.ref C_BooksError))) (a_Broken : PySem.W.nsIn K mainGlobals "Broken" = some (some (.ref C_Broken))) (a_Closed : PySem.W.nsIn K mainGlobals "Closed" = some (some (.ref C_Closed))) (a_NoAccount : PySem.W.nsIn K mainGlobals "NoAccount" = some (some (.ref C_NoAccount))) (a_NoDeed : PySem.W.nsIn K mainGlobals "NoDeed" = some (some (.ref C_NoDeed))) (a_NoFirm : PySem.W.nsIn K mainGlobals "NoFirm" = some (some (.ref C_NoFirm))) (a_NoGoods : PySem.W.nsIn K mainGlobals "NoGoods" = some (some (.ref C_NoGoods))) (a_NoNumber : PySem.W.nsIn K mainGlobals "NoNumber" = some (some (.ref C_NoNumber))) (a_NoRate : PySem.W.nsIn K mainGlobals "NoRate" = some (some (.ref C_NoRate))) (a_NoRow : PySem.W.nsIn K mainGlobals "NoRow" = some (some (.ref C_NoRow))) (a_NoSister : PySem.W.nsIn K mainGlobals "NoSister" = some (some (.ref C_NoSister))) (a_Rates : PySem.W.nsIn K mainGlobals "Rates" = some (some (.ref C_Rates))) (a_Ringed : PySem.W.nsIn K mainGlobals "Ringed" = some (some (.ref C_Ringed))) (a_Singular : PySem.W.nsIn K mainGlobals "Singular" = some (some (.ref C_Singular))) (a_TooFew : PySem.W.nsIn K mainGlobals "TooFew" = some (some (.ref C_TooFew))) (a_Twice : PySem.W.nsIn K mainGlobals "Twice" = some (some (.ref C_Twice))) (a_Unbalanced : PySem.W.nsIn K mainGlobals "Unbalanced" = some (some (.ref C_Unbalanced))) (a_Unheld : PySem.W.nsIn K mainGlobals "Unheld" = some (some (.ref C_Unheld))) (xs_NoNumber : xclsIn K C_NoNumber = true) (xga_NoNumber : PySem.W.findIn K (.ref C_NoNumber) "__getattribute__" = some (some (.builtin "BaseException.__getattribute__"))) (xgh_NoNumber : PySem.W.findIn K (.ref C_NoNumber) "__getattr__" = some (none)) (xsa_NoNumber : PySem.W.findIn K (.ref C_NoNumber) "__setattr__" = some (some (.builtin "object.__setattr__"))) (xcl_NoNumber : PySem.W.findIn K (.ref C_NoNumber) "__class__" = some (some (.builtin "object.__class__"))) (xs_NoRate : xclsIn K C_NoRate = true) (xga_NoRate : PySem.W.findIn K (.ref C_NoRate) "__getattribute__" = some (some (.builtin "BaseException.__getattribute__"))) (xgh_NoRate : PySem.W.findIn K (.ref C_NoRate) "__getattr__" = some (none)) (xsa_NoRate : PySem.W.findIn K (.ref C_NoRate) "__setattr__" = some (some (.builtin "object.__setattr__"))) (xcl_NoRate : PySem.W.findIn K (.ref C_NoRate) "__class__" = some (some (.builtin "object.__class__"))) (xs_Twice : xclsIn K C_Twice = true) (xga_Twice : PySem.W.findIn K (.ref C_Twice) "__getattribute__" = some (some (.builtin "BaseException.__getattribute__"))) (xgh_Twice : PySem.W.findIn K (.ref C_Twice) "__getattr__" = some (none)) (xsa_Twice : PySem.W.findIn K (.ref C_Twice) "__setattr__" = some (some (.builtin "object.__setattr__"))) (xcl_Twice : PySem.W.findIn K (.ref C_Twice) "__class__" = some (some (.builtin "object.__class__"))) (i_NoNumber : PySem.W.findIn K (.ref C_NoNumber) "__init__" = some (some (.builtin "ValueError.__init__"))) (nz_abs : PySem.W.nsIn K mainGlobals "abs" = some none) (nz_len : PySem.W.nsIn K mainGlobals "len" = some none) (nz_max : PySem.W.nsIn K mainGlobals "max" = some none) (nz_range : PySem.W.nsIn K mainGlobals "range" = some none) (nz_isinstance : PySem.W.nsIn K mainGlobals "isinstance" = some none) (nz_int : PySem.W.nsIn K mainGlobals "int" = some none) (nz_bool : PySem.W.nsIn K mainGlobals "bool" = some none) (nz_ValueError : PySem.W.nsIn K mainGlobals "ValueError" = some none) (nz_str : PySem.W.nsIn K mainGlobals "str" = some none) (nz_tuple : PySem.W.nsIn K mainGlobals "tuple" = some none) (q_ib : PySem.W.kitOne K (.type "int") (.type "bool") = some false) (q_o1NoNumber : PySem.W.kitAny K (.ref C_NoNumber) [.ref C_Unbalanced, .ref C_Closed, .ref C_BadPaper, .ref C_NoFirm, .ref C_BadAmount, .ref C_Unheld, .ref C_Ringed, .ref C_Singular] = some false) (q_o2NoNumber : PySem.W.kitAny K (.ref C_NoNumber) [.ref C_NoSister, .ref C_NoAccount, .ref C_NoGoods, .ref C_TooFew, .ref C_NoDeed, .ref C_Broken, .ref C_NoRow] = some false) (q_vNoNumber : PySem.W.kitOne K (.ref C_NoNumber) (.type "ValueError") = some true) (q_o1NoRate : PySem.W.kitAny K (.ref C_NoRate) [.ref C_Unbalanced, .ref C_Closed, .ref C_BadPaper, .ref C_NoFirm, .ref C_BadAmount, .ref C_Unheld, .ref C_Ringed, .ref C_Singular] = some false) (q_o2NoRate : PySem.W.kitAny K (.ref C_NoRate) [.ref C_NoSister, .ref C_NoAccount, .ref C_NoGoods, .ref C_TooFew, .ref C_NoDeed, .ref C_Broken, .ref C_NoRow] = some false) (q_vNoRate : PySem.W.kitOne K (.ref C_NoRate) (.type "ValueError") = some true) (q_o1Twice : PySem.W.kitAny K (.ref C_Twice) [.ref C_Unbalanced, .ref C_Closed, .ref C_BadPaper, .ref C_NoFirm, .ref C_BadAmount, .ref C_Unheld, .ref C_Ringed, .ref C_Singular] = some false) (q_o2Twice : PySem.W.kitAny K (.ref C_Twice) [.ref C_NoSister, .ref C_NoAccount, .ref C_NoGoods, .ref C_TooFew, .ref C_NoDeed, .ref C_Broken, .ref C_NoRow] = some false) (q_vTwice : PySem.W.kitOne K (.ref C_Twice) (.type "ValueError") = some true) (q_mr : PySem.W.exmOne K (.ref C_NoRate) (.ref C_BooksError) = some true) (q_rr : PySem.W.kitOne K (.ref C_NoRate) (.ref C_NoRate) = some true) (q_rnt : PySem.W.kitAny K (.ref C_NoRate) [.ref C_NoNumber, .ref C_Twice] = some false) (q_mn : PySem.W.exmOne K (.ref C_NoNumber) (.ref C_BooksError) = some true) (q_mw : PySem.W.exmOne K (.ref C_Twice) (.ref C_BooksError) = some true) (q_nR : PySem.W.kitOne K (.ref C_NoNumber) (.ref C_NoRate) = some false) (q_nN : PySem.W.kitOne K (.ref C_NoNumber) (.ref C_NoNumber) = some true) (q_nT : PySem.W.kitOne K (.ref C_NoNumber) (.ref C_Twice) = some false) (q_wR : PySem.W.kitOne K (.ref C_Twice) (.ref C_NoRate) = some false) (q_wN : PySem.W.kitOne K (.ref C_Twice) (.ref C_NoNumber) = some false) (q_wT : PySem.W.kitOne K (.ref C_Twice) (.ref C_Twice) = some true) (pg_Rates : PySem.W.plainGet K C_Rates Str.empty = true) (hd_Rates : PySem.W.hasDictIn K C_Rates = true) (po_Rates : PySem.W.plainOver K C_Rates = true) (sa_Rates : PySem.W.findIn K (.ref C_Rates) "__setattr__" = some (some (.builtin "object.__setattr__"))) (mk_Rates : PySem.W.makesIn K C_Rates = true) (kc_Rates : PySem.W.keepIn K (.ref C_Rates) = true) (n_rcoin : PySem.W.findIn K (.ref C_NoRate) "coin" = some none) (n_rday : PySem.W.findIn K (.ref C_NoRate) "day" = some none) (n_tcoin : PySem.W.findIn K (.ref C_Twice) "coin" = some none) (n_tday : PySem.W.findIn K (.ref C_Twice) "day" = some none) (n_told : PySem.W.findIn K (.ref C_Rates) "told" = some none) (n_known : PySem.W.findIn K (.ref C_Rates) "known" = some none) (a_divisor : PySem.W.nsIn K mainGlobals "divisor" = some (some (.ref f_divisor))) (l_divisor : K.lookup f_divisor = some ⟨oc_divisor, od_divisor, .func (PySem.W.fnOf "divisor" "divisor" (defArgs s_divisor) (defBody s_divisor) (defScope s_divisor) .none kV_divisor dc_divisor pm_divisor an_divisor cd_divisor ct_divisor), sl_divisor⟩) (c_divisor : PySem.W.codeIn K cd_divisor "divisor" = true) (k_divisor : PySem.W.keepIn K (.ref f_divisor) = true) (a_fraction : PySem.W.nsIn K mainGlobals "fraction" = some (some (.ref f_fraction))) (l_fraction : K.lookup f_fraction = some ⟨oc_fraction, od_fraction, .func (PySem.W.fnOf "fraction" "fraction" (defArgs s_fraction) (defBody s_fraction) (defScope s_fraction) (.ref T_fraction) kV_fraction dc_fraction pm_fraction an_fraction cd_fraction ct_fraction), sl_fraction⟩) (c_fraction : PySem.W.codeIn K cd_fraction "fraction" = true) (k_fraction : PySem.W.keepIn K (.ref f_fraction) = true) (lT_fraction : K.lookup T_fraction = some ⟨.type "tuple", odT_fraction, .seq #[.int 1 tkT_fraction] nT_fraction, slT_fraction⟩) (at_NoRate__init__ : PySem.W.findIn K (.ref C_NoRate) "__init__" = some (some (.ref f_NoRate__init__))) (fn_NoRate__init__ : PySem.W.isFn K (.ref f_NoRate__init__) = true) (l_NoRate__init__ : K.lookup f_NoRate__init__ = some ⟨oc_NoRate__init__, od_NoRate__init__, .func (PySem.W.fnOf "__init__" "NoRate.__init__" (defArgs s_NoRate__init__) (defBody s_NoRate__init__) (defScope s_NoRate__init__) .none kV_NoRate__init__ dc_NoRate__init__ pm_NoRate__init__ an_NoRate__init__ cd_NoRate__init__ ct_NoRate__init__), sl_NoRate__init__⟩) (c_NoRate__init__ : PySem.W.codeIn K cd_NoRate__init__ "NoRate.__init__" = true) (k_NoRate__init__ : PySem.W.keepIn K (.ref f_NoRate__init__) = true) (at_Twice__init__ : PySem.W.findIn K (.ref C_Twice) "__init__" = some (some (.ref f_Twice__init__))) (fn_Twice__init__ : PySem.W.isFn K (.ref f_Twice__init__) = true) (l_Twice__init__ : K.lookup f_Twice__init__ = some ⟨oc_Twice__init__, od_Twice__init__, .func (PySem.W.fnOf "__init__" "Twice.__init__" (defArgs s_Twice__init__) (defBody s_Twice__init__) (defScope s_Twice__init__) .none kV_Twice__init__ dc_Twice__init__ pm_Twice__init__ an_Twice__init__ cd_Twice__init__ ct_Twice__init__), sl_Twice__init__⟩) (c_Twice__init__ : PySem.W.codeIn K cd_Twice__init__ "Twice.__init__" = true) (k_Twice__init__ : PySem.W.keepIn K (.ref f_Twice__init__) = true) (at_Rates_rate : PySem.W.findIn K (.ref C_Rates) "rate" = some (some (.ref f_Rates_rate))) (fn_Rates_rate : PySem.W.isFn K (.ref f_Rates_rate) = true) (l_Rates_rate : K.lookup f_Rates_rate = some ⟨oc_Rates_rate, od_Rates_rate, .func (PySem.W.fnOf "rate" "Rates.rate" (defArgs s_Rates_rate) (defBody s_Rates_rate) (defScope s_Rates_rate) .none kV_Rates_rate dc_Rates_rate pm_Rates_rate an_Rates_rate cd_Rates_rate ct_Rates_rate), sl_Rates_rate⟩) (c_Rates_rate : PySem.W.codeIn K cd_Rates_rate "Rates.rate" = true) (k_Rates_rate : PySem.W.keepIn K (.ref f_Rates_rate) = true) (at_Rates___init__ : PySem.W.findIn K (.ref C_Rates) "__init__" = some (some (.ref f_Rates___init__))) (fn_Rates___init__ : PySem.W.isFn K (.ref f_Rates___init__) = true) (l_Rates___init__ : K.lookup f_Rates___init__ = some ⟨oc_Rates___init__, od_Rates___init__, .func (PySem.W.fnOf "__init__" "Rates.__init__" (defArgs s_Rates___init__) (defBody s_Rates___init__) (defScope s_Rates___init__) (.ref T_Rates___init__) kV_Rates___init__ dc_Rates___init__ pm_Rates___init__ an_Rates___init__ cd_Rates___init__ ct_Rates___init__), sl_Rates___init__⟩) (c_Rates___init__ : PySem.W.codeIn K cd_Rates___init__ "Rates.__init__" = true) (k_Rates___init__ : PySem.W.keepIn K (.ref f_Rates___init__) = true) (lT_Rates___init__ : K.lookup T_Rates___init__ = some ⟨.type "tuple", odT_Rates___init__, .seq #[.str "one" tkT_Rates___init__] nT_Rates___init__, slT_Rates___init__⟩) (at_Rates_tell : PySem.W.findIn K (.ref C_Rates) "tell" = some (some (.ref f_Rates_tell))) (fn_Rates_tell : PySem.W.isFn K (.ref f_Rates_tell) = true) (l_Rates_tell : K.lookup f_Rates_tell = some ⟨oc_Rates_tell, od_Rates_tell, .func (PySem.W.fnOf "tell" "Rates.tell" (defArgs s_Rates_tell) (defBody s_Rates_tell) (defScope s_Rates_tell) (.ref T_Rates_tell) kV_Rates_tell dc_Rates_tell pm_Rates_tell an_Rates_tell cd_Rates_tell ct_Rates_tell), sl_Rates_tell⟩) (c_Rates_tell : PySem.W.codeIn K cd_Rates_tell "Rates.tell" = true) (k_Rates_tell : PySem.W.keepIn K (.ref f_Rates_tell) = true) (lT_Rates_tell : K.lookup T_Rates_tell = some ⟨.type "tuple", odT_Rates_tell, .seq #[.int 1 tkT_Rates_tell] nT_Rates_tell, slT_Rates_tell⟩) (a__law_names : PySem.W.nsIn K mainGlobals "_law_names" = some (some (.ref f__law_names))) (l__law_names : K.lookup f__law_names = some ⟨oc__law_names, od__law_names, .func (PySem.W.fnOf "_law_names" "_law_names" (defArgs s__law_names) (defBody s__law_names) (defScope s__law_names) .none kV__law_names dc__law_names pm__law_names an__law_names cd__law_names ct__law_names), sl__law_names⟩) (c__law_names : PySem.W.codeIn K cd__law_names "_law_names" = true) (k__law_names : PySem.W.keepIn K (.ref f__law_names) = true) (a__law_cell : PySem.W.nsIn K mainGlobals "_law_cell" = some (some (.ref f__law_cell))) (l__law_cell : K.lookup f__law_cell = some ⟨oc__law_cell, od__law_cell, .func (PySem.W.fnOf "_law_cell" "_law_cell" (defArgs s__law_cell) (defBody s__law_cell) (defScope s__law_cell) .none kV__law_cell dc__law_cell pm__law_cell an__law_cell cd__law_cell ct__law_cell), sl__law_cell⟩) (c__law_cell : PySem.W.codeIn K cd__law_cell "_law_cell" = true) (k__law_cell : PySem.W.keepIn K (.ref f__law_cell) = true) (a__law_whole : PySem.W.nsIn K mainGlobals "_law_whole" = some (some (.ref f__law_whole))) (l__law_whole : K.lookup f__law_whole = some ⟨oc__law_whole, od__law_whole, .func (PySem.W.fnOf "_law_whole" "_law_whole" (defArgs s__law_whole) (defBody s__law_whole) (defScope s__law_whole) .none kV__law_whole dc__law_whole pm__law_whole an__law_whole cd__law_whole ct__law_whole), sl__law_whole⟩) (c__law_whole : PySem.W.codeIn K cd__law_whole "_law_whole" = true) (k__law_whole : PySem.W.keepIn K (.ref f__law_whole) = true) (a__law_divisor : PySem.W.nsIn K mainGlobals "_law_divisor" = some (some (.ref f__law_divisor))) (l__law_divisor : K.lookup f__law_divisor = some ⟨oc__law_divisor, od__law_divisor, .func (PySem.W.fnOf "_law_divisor" "_law_divisor" (defArgs s__law_divisor) (defBody s__law_divisor) (defScope s__law_divisor) .none kV__law_divisor dc__law_divisor pm__law_divisor an__law_divisor cd__law_divisor ct__law_divisor), sl__law_divisor⟩) (c__law_divisor : PySem.W.codeIn K cd__law_divisor "_law_divisor" = true) (k__law_divisor : PySem.W.keepIn K (.ref f__law_divisor) = true) (a__law_top : PySem.W.nsIn K mainGlobals "_law_top" = some (some (.ref f__law_top))) (l__law_top : K.lookup f__law_top = some ⟨oc__law_top, od__law_top, .func (PySem.W.fnOf "_law_top" "_law_top" (defArgs s__law_top) (defBody s__law_top) (defScope s__law_top) .none kV__law_top dc__law_top pm__law_top an__law_top cd__law_top ct__law_top), sl__law_top⟩) (c__law_top : PySem.W.codeIn K cd__law_top "_law_top" = true) (k__law_top : PySem.W.keepIn K (.ref f__law_top) = true) (a__law_other : PySem.W.nsIn K mainGlobals "_law_other" = some (some (.ref f__law_other))) (l__law_other : K.lookup f__law_other = some ⟨oc__law_other, od__law_other, .func (PySem.W.fnOf "_law_other" "_law_other" (defArgs s__law_other) (defBody s__law_other) (defScope s__law_other) .none kV__law_other dc__law_other pm__law_other an__law_other cd__law_other ct__law_other), sl__law_other⟩) (c__law_other : PySem.W.codeIn K cd__law_other "_law_other" = true) (k__law_other : PySem.W.keepIn K (.ref f__law_other) = true) (a__law_named : PySem.W.nsIn K mainGlobals "_law_named" = some (some (.ref f__law_named))) (l__law_named : K.lookup f__law_named = some ⟨oc__law_named, od__law_named, .func (PySem.W.fnOf "_law_named" "_law_named" (defArgs s__law_named) (defBody s__law_named) (defScope s__law_named) .none kV__law_named dc__law_named pm__law_named an__law_named cd__law_named ct__law_named), sl__law_named⟩) (c__law_named : PySem.W.codeIn K cd__law_named "_law_named" = true) (k__law_named : PySem.W.keepIn K (.ref f__law_named) = true) (a__law_due : PySem.W.nsIn K mainGlobals "_law_due" = some (some (.ref f__law_due))) (l__law_due : K.lookup f__law_due = some ⟨oc__law_due, od__law_due, .func (PySem.W.fnOf "_law_due" "_law_due" (defArgs s__law_due) (defBody s__law_due) (defScope s__law_due) .none kV__law_due dc__law_due pm__law_due an__law_due cd__law_due ct__law_due), sl__law_due⟩) (c__law_due : PySem.W.codeIn K cd__law_due "_law_due" = true) (k__law_due : PySem.W.keepIn K (.ref f__law_due) = true) (a__law_asked : PySem.W.nsIn K mainGlobals "_law_asked" = some (some (.ref f__law_asked))) (l__law_asked : K.lookup f__law_asked = some ⟨oc__law_asked, od__law_asked, .func (PySem.W.fnOf "_law_asked" "_law_asked" (defArgs s__law_asked) (defBody s__law_asked) (defScope s__law_asked) .none kV__law_asked dc__law_asked pm__law_asked an__law_asked cd__law_asked ct__law_asked), sl__law_asked⟩) (c__law_asked : PySem.W.codeIn K cd__law_asked "_law_asked" = true) (k__law_asked : PySem.W.keepIn K (.ref f__law_asked) = true) (a__law_answer : PySem.W.nsIn K mainGlobals "_law_answer" = some (some (.ref f__law_answer))) (l__law_answer : K.lookup f__law_answer = some ⟨oc__law_answer, od__law_answer, .func (PySem.W.fnOf "_law_answer" "_law_answer" (defArgs s__law_answer) (defBody s__law_answer) (defScope s__law_answer) .none kV__law_answer dc__law_answer pm__law_answer an__law_answer cd__law_answer ct__law_answer), sl__law_answer⟩) (c__law_answer : PySem.W.codeIn K cd__law_answer "_law_answer" = true) (k__law_answer : PySem.W.keepIn K (.ref f__law_answer) = true) (a__law_told : PySem.W.nsIn K mainGlobals "_law_told" = some (some (.ref f__law_told))) (l__law_told : K.lookup f__law_told = some ⟨oc__law_told, od__law_told, .func (PySem.W.fnOf "_law_told" "_law_told" (defArgs s__law_told) (defBody s__law_told) (defScope s__law_told) .none kV__law_told dc__law_told pm__law_told an__law_told cd__law_told ct__law_told), sl__law_told⟩) (c__law_told : PySem.W.codeIn K cd__law_told "_law_told" = true) (k__law_told : PySem.W.keepIn K (.ref f__law_told) = true) (a__law_row : PySem.W.nsIn K mainGlobals "_law_row" = some (some (.ref f__law_row))) (l__law_row : K.lookup f__law_row = some ⟨oc__law_row, od__law_row, .func (PySem.W.fnOf "_law_row" "_law_row" (defArgs s__law_row) (defBody s__law_row) (defScope s__law_row) .none kV__law_row dc__law_row pm__law_row an__law_row cd__law_row ct__law_row), sl__law_row⟩) (c__law_row : PySem.W.codeIn K cd__law_row "_law_row" = true) (k__law_row : PySem.W.keepIn K (.ref f__law_row) = true) (a__law_all_asked : PySem.W.nsIn K mainGlobals "_law_all_asked" = some (some (.ref f__law_all_asked))) (l__law_all_asked : K.lookup f__law_all_asked = some ⟨oc__law_all_asked, od__law_all_asked, .func (PySem.W.fnOf "_law_all_asked" "_law_all_asked" (defArgs s__law_all_asked) (defBody s__law_all_asked) (defScope s__law_all_asked) .none kV__law_all_asked dc__law_all_asked pm__law_all_asked an__law_all_asked cd__law_all_asked ct__law_all_asked), sl__law_all_asked⟩) (c__law_all_asked : PySem.W.codeIn K cd__law_all_asked "_law_all_asked" = true) (k__law_all_asked : PySem.W.keepIn K (.ref f__law_all_asked) = true) (a_law : PySem.W.nsIn K mainGlobals "law" = some (some (.ref f_law))) (l_law : K.lookup f_law = some ⟨oc_law, od_law, .func (PySem.W.fnOf "law" "law" (defArgs s_law) (defBody s_law) (defScope s_law) .none kV_law dc_law pm_law an_law cd_law ct_law), sl_law⟩) (c_law : PySem.W.codeIn K cd_law "law" = true) (k_law : PySem.W.keepIn K (.ref f_law) = true) :
    ∃ fd : FuncData, (∀ (s : Shared) (v : Value), BindsTo s fd ⟨[v], []⟩ [("_law_script", v)]) ∧ ∀ base : Heap, K.In base → base.Ns mainGlobals mg → FnOk l.prog w K mg base CX0 true 6 fa fd ["_law_script"] (spLaw K) := by
  have e := hfa.symm.trans (PySem.W.mg_of X G a_law)
  cases e
  have m_BadAmount := PySem.W.mg_of X G a_BadAmount
  have m_BadPaper := PySem.W.mg_of X G a_BadPaper
  have m_BooksError := PySem.W.mg_of X G a_BooksError
  have m_Broken := PySem.W.mg_of X G a_Broken
  have m_Closed := PySem.W.mg_of X G a_Closed
  have m_NoAccount := PySem.W.mg_of X G a_NoAccount
  have m_NoDeed := PySem.W.mg_of X G a_NoDeed
  have m_NoFirm := PySem.W.mg_of X G a_NoFirm
  have m_NoGoods := PySem.W.mg_of X G a_NoGoods
  have m_NoNumber := PySem.W.mg_of X G a_NoNumber
  have m_NoRate := PySem.W.mg_of X G a_NoRate
  have m_NoRow := PySem.W.mg_of X G a_NoRow
  have m_NoSister := PySem.W.mg_of X G a_NoSister
  have m_Rates := PySem.W.mg_of X G a_Rates
  have m_Ringed := PySem.W.mg_of X G a_Ringed
  have m_Singular := PySem.W.mg_of X G a_Singular
  have m_TooFew := PySem.W.mg_of X G a_TooFew
  have m_Twice := PySem.W.mg_of X G a_Twice
  have m_Unbalanced := PySem.W.mg_of X G a_Unbalanced
  have m_Unheld := PySem.W.mg_of X G a_Unheld
  have X_NoNumber : XCls K C_NoNumber := ⟨xs_NoNumber, xga_NoNumber, xgh_NoNumber, xsa_NoNumber, xcl_NoNumber⟩
  have X_NoRate : XCls K C_NoRate := ⟨xs_NoRate, xga_NoRate, xgh_NoRate, xsa_NoRate, xcl_NoRate⟩
  have X_Twice : XCls K C_Twice := ⟨xs_Twice, xga_Twice, xgh_Twice, xsa_Twice, xcl_Twice⟩
  have z_abs := PySem.W.mg_none_of X G nz_abs
  have z_len := PySem.W.mg_none_of X G nz_len
  have z_max := PySem.W.mg_none_of X G nz_max
  have z_range := PySem.W.mg_none_of X G nz_range
  have z_isinstance := PySem.W.mg_none_of X G nz_isinstance
  have z_int := PySem.W.mg_none_of X G nz_int
  have z_bool := PySem.W.mg_none_of X G nz_bool
  have z_ValueError := PySem.W.mg_none_of X G nz_ValueError
  have z_str := PySem.W.mg_none_of X G nz_str
  have z_tuple := PySem.W.mg_none_of X G nz_tuple
  have cl_Rates : Cls K C_Rates := ⟨pg_Rates, hd_Rates, po_Rates, sa_Rates⟩
  refine ⟨PySem.W.fnOf "law" "law" (defArgs s_law) (defBody s_law) (defScope s_law) .none kV_law dc_law pm_law an_law cd_law ct_law, fun s v => .of_eq rfl, fun base _ _ => ?_⟩
  have q_divisor := ok_divisor (P := l.prog) (w := w) (base := base) (cm := true) ⟨f_divisor, _, funD_mk (st := s_divisor) l_divisor c_divisor k_divisor, PySem.W.mg_of X G a_divisor⟩ z_abs
  have q_fraction := ok_fraction (P := l.prog) (w := w) (base := base) ⟨f_fraction, _, funD_mk (st := s_fraction) l_fraction c_fraction k_fraction, PySem.W.mg_of X G a_fraction⟩ lT_fraction q_divisor m_NoNumber X_NoNumber i_NoNumber
  have q_NoRate__init__ := ok_NoRate__init__ (P := l.prog) (w := w) (mg := mg) (base := base) X_NoRate n_rcoin n_rday ⟨f_NoRate__init__, _, funD_mk (st := s_NoRate__init__) l_NoRate__init__ c_NoRate__init__ k_NoRate__init__, at_NoRate__init__, fn_NoRate__init__⟩
  have q_Twice__init__ := ok_Twice__init__ (P := l.prog) (w := w) (mg := mg) (base := base) X_Twice n_tcoin n_tday ⟨f_Twice__init__, _, funD_mk (st := s_Twice__init__) l_Twice__init__ c_Twice__init__ k_Twice__init__, at_Twice__init__, fn_Twice__init__⟩
  have q_Rates_rate := ok_Rates_rate (P := l.prog) (w := w) (mg := mg) (base := base) ⟨f_Rates_rate, _, funD_mk (st := s_Rates_rate) l_Rates_rate c_Rates_rate k_Rates_rate, ⟨at_Rates_rate, fn_Rates_rate, k_Rates_rate⟩⟩ q_fraction q_NoRate__init__ z_len z_max m_NoRate X_NoRate cl_Rates n_told n_known
  have q_Rates___init__ := ok_Rates___init__ (P := l.prog) (w := w) (mg := mg) (base := base) (cm := true) ⟨f_Rates___init__, _, funD_mk (st := s_Rates___init__) l_Rates___init__ c_Rates___init__ k_Rates___init__, ⟨mk_Rates, at_Rates___init__, fn_Rates___init__, kc_Rates⟩⟩ lT_Rates___init__ cl_Rates n_told n_known
  have q_Rates_tell := ok_Rates_tell (P := l.prog) (w := w) (mg := mg) (base := base) ⟨f_Rates_tell, _, funD_mk (st := s_Rates_tell) l_Rates_tell c_Rates_tell k_Rates_tell, ⟨at_Rates_tell, fn_Rates_tell, k_Rates_tell⟩⟩ lT_Rates_tell q_Twice__init__ q_fraction m_NoNumber m_Twice X_NoNumber X_Twice i_NoNumber cl_Rates n_told n_known
  have q__law_names := ok__law_names (P := l.prog) (w := w) (base := base) ⟨f__law_names, _, funD_mk (st := s__law_names) l__law_names c__law_names k__law_names, PySem.W.mg_of X G a__law_names⟩ z_range
  have q__law_cell := ok__law_cell (P := l.prog) (w := w) (base := base) (cm := true) ⟨f__law_cell, _, funD_mk (st := s__law_cell) l__law_cell c__law_cell k__law_cell, PySem.W.mg_of X G a__law_cell⟩ z_len
  have q__law_wholeF := ok__law_whole (P := l.prog) (w := w) (base := base) (cm := false) ⟨f__law_whole, _, funD_mk (st := s__law_whole) l__law_whole c__law_whole k__law_whole, PySem.W.mg_of X G a__law_whole⟩ z_isinstance z_int z_bool q_ib
  have q__law_whole := ok__law_whole (P := l.prog) (w := w) (base := base) (cm := true) ⟨f__law_whole, _, funD_mk (st := s__law_whole) l__law_whole c__law_whole k__law_whole, PySem.W.mg_of X G a__law_whole⟩ z_isinstance z_int z_bool q_ib
  have q__law_divisor := ok__law_divisor (P := l.prog) (w := w) (base := base) (cm := true) ⟨f__law_divisor, _, funD_mk (st := s__law_divisor) l__law_divisor c__law_divisor k__law_divisor, PySem.W.mg_of X G a__law_divisor⟩ 
  have q__law_top := ok__law_top (P := l.prog) (w := w) (base := base) (cm := true) ⟨f__law_top, _, funD_mk (st := s__law_top) l__law_top c__law_top k__law_top, PySem.W.mg_of X G a__law_top⟩ 
  have q__law_otherF := ok__law_other (P := l.prog) (w := w) (base := base) (cm := false) ⟨f__law_other, _, funD_mk (st := s__law_other) l__law_other c__law_other k__law_other, PySem.W.mg_of X G a__law_other⟩ z_isinstance z_ValueError m_Unbalanced m_Closed m_BadPaper m_NoFirm m_BadAmount m_Unheld m_Ringed m_Singular m_NoSister m_NoAccount m_NoGoods m_TooFew m_NoDeed m_Broken m_NoRow X_NoNumber X_NoRate X_Twice q_o1NoNumber q_o2NoNumber q_vNoNumber q_o1NoRate q_o2NoRate q_vNoRate q_o1Twice q_o2Twice q_vTwice
  have q__law_other := ok__law_other (P := l.prog) (w := w) (base := base) (cm := true) ⟨f__law_other, _, funD_mk (st := s__law_other) l__law_other c__law_other k__law_other, PySem.W.mg_of X G a__law_other⟩ z_isinstance z_ValueError m_Unbalanced m_Closed m_BadPaper m_NoFirm m_BadAmount m_Unheld m_Ringed m_Singular m_NoSister m_NoAccount m_NoGoods m_TooFew m_NoDeed m_Broken m_NoRow X_NoNumber X_NoRate X_Twice q_o1NoNumber q_o2NoNumber q_vNoNumber q_o1NoRate q_o2NoRate q_vNoRate q_o1Twice q_o2Twice q_vTwice
  have q__law_namedF := ok__law_named (P := l.prog) (w := w) (base := base) (cm := false) ⟨f__law_named, _, funD_mk (st := s__law_named) l__law_named c__law_named k__law_named, PySem.W.mg_of X G a__law_named⟩ q__law_wholeF z_isinstance z_str X_NoRate X_Twice n_rcoin n_rday n_tcoin n_tday
  have q__law_named := ok__law_named (P := l.prog) (w := w) (base := base) (cm := true) ⟨f__law_named, _, funD_mk (st := s__law_named) l__law_named c__law_named k__law_named, PySem.W.mg_of X G a__law_named⟩ q__law_whole z_isinstance z_str X_NoRate X_Twice n_rcoin n_rday n_tcoin n_tday
  have q__law_due := ok__law_due (P := l.prog) (w := w) (base := base) ⟨f__law_due, _, funD_mk (st := s__law_due) l__law_due c__law_due k__law_due, PySem.W.mg_of X G a__law_due⟩ 
  have q__law_asked := ok__law_asked (P := l.prog) (w := w) (base := base) ⟨f__law_asked, _, funD_mk (st := s__law_asked) l__law_asked c__law_asked k__law_asked, PySem.W.mg_of X G a__law_asked⟩ q__law_due q_Rates_rate q__law_otherF q__law_namedF q__law_whole z_isinstance z_tuple z_len m_BooksError m_NoRate m_NoNumber m_Twice X_NoRate q_mr q_rr q_rnt cl_Rates
  have q__law_answer := ok__law_answer (P := l.prog) (w := w) (base := base) ⟨f__law_answer, _, funD_mk (st := s__law_answer) l__law_answer c__law_answer k__law_answer, PySem.W.mg_of X G a__law_answer⟩ q_Rates_tell cl_Rates
  have q__law_told := ok__law_told (P := l.prog) (w := w) (base := base) ⟨f__law_told, _, funD_mk (st := s__law_told) l__law_told c__law_told k__law_told, PySem.W.mg_of X G a__law_told⟩ q__law_answer q__law_otherF q__law_namedF z_isinstance m_BooksError m_NoRate m_NoNumber m_Twice X_NoNumber X_Twice q_mn q_mw q_nR q_nN q_nT q_wR q_wN q_wT
  have q__law_row := ok__law_row (P := l.prog) (w := w) (base := base) ⟨f__law_row, _, funD_mk (st := s__law_row) l__law_row c__law_row k__law_row, PySem.W.mg_of X G a__law_row⟩ q__law_divisor
  have q__law_all_asked := ok__law_all_asked (P := l.prog) (w := w) (base := base) ⟨f__law_all_asked, _, funD_mk (st := s__law_all_asked) l__law_all_asked c__law_all_asked k__law_all_asked, PySem.W.mg_of X G a__law_all_asked⟩ q__law_asked
  exact ok_law (P := l.prog) (w := w) (base := base) (funD_mk (st := s_law) l_law c_law k_law) q__law_names q__law_cell q_Rates___init__ q__law_top q__law_asked q__law_told q__law_row q__law_all_asked z_range z_len z_max m_Rates cl_Rates n_told n_known
theorem walk {l : PySem.W.OpenLaw} {q : Program} {loose : List Str} {XP : (Str → Option Value) → Heap → Prop} {YP : World → Heap → Prop} {d : DefRec} {K : Params → PySem.W.Frag} (hn : l.most = some 63) (hdf : d.params.defaults = [])
    (hY : ∀ (w : World) (h : Heap), YP w h → (K w.params).In h)
    (F : ∀ (w : World) (mg : Str → Option Value) (fa : Addr) (h : Heap), (K w.params).In h → h.Ns mainGlobals mg → mg d.name = some (.ref fa) →
      ∃ fd : FuncData, (∀ (s : Shared) (u : Value), BindsTo s fd ⟨[u], []⟩ [("_law_script", u)]) ∧ ∀ base : Heap, (K w.params).In base → base.Ns mainGlobals mg → FnOk l.prog w (K w.params) mg base CX0 true 6 fa fd ["_law_script"] (spLaw (K w.params))) :
    PySem.W.WalkO q loose XP YP l.row.toRowW d [] (fun f vs => PySem.call f vs) :=
  L2.walk_of (n := 63) (k := 6) (x := "_law_script") (CX := fun _ => CX0) (sp := fun w => spLaw (K w.params)) hn (by decide) hdf ⟨fun _ => rfl, by decide, by decide⟩ hY F (fun _ _ a ns hl _ hS => ⟨a, ns, rfl, hS, hl, fun _ => rfl⟩) fun _ _ _ _ _ z => z
end K16
open PySem PySem.W PyProof.Rows
set_option maxRecDepth 100000 in
set_option maxHeartbeats 0 in
theorem PySem.Challenge.cw_groupbooks_k16_rates_by_day_holds : PySem.Challenge.rw_groupbooks_k16_rates_by_day.Holds := by
  refine K16.headTop ?_
  k_fill
  refine K16.walk (l := PySem.Challenge.rw_groupbooks_k16_rates_by_day) rfl rfl (fun w h Y => PySem.W.kIn_of Y) ?F
  case F =>
    intro w mg fa h KX G hmg
    refine' K16.all_mk KX G hmg ?a_BadAmount ?a_BadPaper ?a_BooksError ?a_Broken ?a_Closed ?a_NoAccount ?a_NoDeed ?a_NoFirm ?a_NoGoods ?a_NoNumber ?a_NoRate ?a_NoRow ?a_NoSister ?a_Rates ?a_Ringed ?a_Singular ?a_TooFew ?a_Twice ?a_Unbalanced ?a_Unheld ?xs_NoNumber ?xga_NoNumber ?xgh_NoNumber ?xsa_NoNumber ?xcl_NoNumber ?xs_NoRate ?xga_NoRate ?xgh_NoRate ?xsa_NoRate ?xcl_NoRate ?xs_Twice ?xga_Twice ?xgh_Twice ?xsa_Twice ?xcl_Twice ?i_NoNumber ?nz_abs ?nz_len ?nz_max ?nz_range ?nz_isinstance ?nz_int ?nz_bool ?nz_ValueError ?nz_str ?nz_tuple ?q_ib ?q_o1NoNumber ?q_o2NoNumber ?q_vNoNumber ?q_o1NoRate ?q_o2NoRate ?q_vNoRate ?q_o1Twice ?q_o2Twice ?q_vTwice ?q_mr ?q_rr ?q_rnt ?q_mn ?q_mw ?q_nR ?q_nN ?q_nT ?q_wR ?q_wN ?q_wT ?pg_Rates ?hd_Rates ?po_Rates ?sa_Rates ?mk_Rates ?kc_Rates ?n_rcoin ?n_rday ?n_tcoin ?n_tday ?n_told ?n_known ?a_divisor ?l_divisor ?c_divisor ?k_divisor ?a_fraction ?l_fraction ?c_fraction ?k_fraction ?lT_fraction ?at_NoRate__init__ ?fn_NoRate__init__ ?l_NoRate__init__ ?c_NoRate__init__ ?k_NoRate__init__ ?at_Twice__init__ ?fn_Twice__init__ ?l_Twice__init__ ?c_Twice__init__ ?k_Twice__init__ ?at_Rates_rate ?fn_Rates_rate ?l_Rates_rate ?c_Rates_rate ?k_Rates_rate ?at_Rates___init__ ?fn_Rates___init__ ?l_Rates___init__ ?c_Rates___init__ ?k_Rates___init__ ?lT_Rates___init__ ?at_Rates_tell ?fn_Rates_tell ?l_Rates_tell ?c_Rates_tell ?k_Rates_tell ?lT_Rates_tell ?a__law_names ?l__law_names ?c__law_names ?k__law_names ?a__law_cell ?l__law_cell ?c__law_cell ?k__law_cell ?a__law_whole ?l__law_whole ?c__law_whole ?k__law_whole ?a__law_divisor ?l__law_divisor ?c__law_divisor ?k__law_divisor ?a__law_top ?l__law_top ?c__law_top ?k__law_top ?a__law_other ?l__law_other ?c__law_other ?k__law_other ?a__law_named ?l__law_named ?c__law_named ?k__law_named ?a__law_due ?l__law_due ?c__law_due ?k__law_due ?a__law_asked ?l__law_asked ?c__law_asked ?k__law_asked ?a__law_answer ?l__law_answer ?c__law_answer ?k__law_answer ?a__law_told ?l__law_told ?c__law_told ?k__law_told ?a__law_row ?l__law_row ?c__law_row ?k__law_row ?a__law_all_asked ?l__law_all_asked ?c__law_all_asked ?k__law_all_asked ?a_law ?l_law ?c_law ?k_law
    (case a_BadAmount => k_is)
    (case a_BadPaper => k_is)
    (case a_BooksError => k_is)
    (case a_Broken => k_is)
    (case a_Closed => k_is)
    (case a_NoAccount => k_is)
    (case a_NoDeed => k_is)
    (case a_NoFirm => k_is)
    (case a_NoGoods => k_is)
    (case a_NoNumber => k_is)
    (case a_NoRate => k_is)
    (case a_NoRow => k_is)
    (case a_NoSister => k_is)
    (case a_Rates => k_is)
    (case a_Ringed => k_is)
    (case a_Singular => k_is)
    (case a_TooFew => k_is)
    (case a_Twice => k_is)
    (case a_Unbalanced => k_is)
    (case a_Unheld => k_is)
    (case xga_NoNumber => k_is)
    (case xgh_NoNumber => k_is)
    (case xsa_NoNumber => k_is)
    (case xcl_NoNumber => k_is)
    (case xga_NoRate => k_is)
    (case xgh_NoRate => k_is)
    (case xsa_NoRate => k_is)
    (case xcl_NoRate => k_is)
    (case xga_Twice => k_is)
    (case xgh_Twice => k_is)
    (case xsa_Twice => k_is)
    (case xcl_Twice => k_is)
    (case i_NoNumber => k_is)
    (case nz_abs => k_is)
    (case nz_len => k_is)
    (case nz_max => k_is)
    (case nz_range => k_is)
    (case nz_isinstance => k_is)
    (case nz_int => k_is)
    (case nz_bool => k_is)
    (case nz_ValueError => k_is)
    (case nz_str => k_is)
    (case nz_tuple => k_is)
    (case pg_Rates => k_is)
    (case hd_Rates => k_is)
    (case po_Rates => k_is)
    (case sa_Rates => k_is)
    (case mk_Rates => k_is)
    (case kc_Rates => k_is)
    (case n_rcoin => k_is)
    (case n_rday => k_is)
    (case n_tcoin => k_is)
    (case n_tday => k_is)
    (case n_told => k_is)
    (case n_known => k_is)
    (case a_divisor => k_is)
    (case l_divisor => k_is)
    (case c_divisor => k_is)
    (case k_divisor => k_is)
    (case a_fraction => k_is)
    (case l_fraction => k_is)
    (case c_fraction => k_is)
    (case k_fraction => k_is)
    (case lT_fraction => k_is)
    (case at_NoRate__init__ => k_is)
    (case fn_NoRate__init__ => k_is)
    (case l_NoRate__init__ => k_is)
    (case c_NoRate__init__ => k_is)
    (case k_NoRate__init__ => k_is)
    (case at_Twice__init__ => k_is)
    (case fn_Twice__init__ => k_is)
    (case l_Twice__init__ => k_is)
    (case c_Twice__init__ => k_is)
    (case k_Twice__init__ => k_is)
    (case at_Rates_rate => k_is)
    (case fn_Rates_rate => k_is)
    (case l_Rates_rate => k_is)
    (case c_Rates_rate => k_is)
    (case k_Rates_rate => k_is)
    (case at_Rates___init__ => k_is)
    (case fn_Rates___init__ => k_is)
    (case l_Rates___init__ => k_is)
    (case c_Rates___init__ => k_is)
    (case k_Rates___init__ => k_is)
    (case lT_Rates___init__ => k_is)
    (case at_Rates_tell => k_is)
    (case fn_Rates_tell => k_is)
    (case l_Rates_tell => k_is)
    (case c_Rates_tell => k_is)
    (case k_Rates_tell => k_is)
    (case lT_Rates_tell => k_is)
    (case a__law_names => k_is)
    (case l__law_names => k_is)
    (case c__law_names => k_is)
    (case k__law_names => k_is)
    (case a__law_cell => k_is)
    (case l__law_cell => k_is)
    (case c__law_cell => k_is)
    (case k__law_cell => k_is)
    (case a__law_whole => k_is)
    (case l__law_whole => k_is)
    (case c__law_whole => k_is)
    (case k__law_whole => k_is)
    (case a__law_divisor => k_is)
    (case l__law_divisor => k_is)
    (case c__law_divisor => k_is)
    (case k__law_divisor => k_is)
    (case a__law_top => k_is)
    (case l__law_top => k_is)
    (case c__law_top => k_is)
    (case k__law_top => k_is)
    (case a__law_other => k_is)
    (case l__law_other => k_is)
    (case c__law_other => k_is)
    (case k__law_other => k_is)
    (case a__law_named => k_is)
    (case l__law_named => k_is)
    (case c__law_named => k_is)
    (case k__law_named => k_is)
    (case a__law_due => k_is)
    (case l__law_due => k_is)
    (case c__law_due => k_is)
    (case k__law_due => k_is)
    (case a__law_asked => k_is)
    (case l__law_asked => k_is)
    (case c__law_asked => k_is)
    (case k__law_asked => k_is)
    (case a__law_answer => k_is)
    (case l__law_answer => k_is)
    (case c__law_answer => k_is)
    (case k__law_answer => k_is)
    (case a__law_told => k_is)
    (case l__law_told => k_is)
    (case c__law_told => k_is)
    (case k__law_told => k_is)
    (case a__law_row => k_is)
    (case l__law_row => k_is)
    (case c__law_row => k_is)
    (case k__law_row => k_is)
    (case a__law_all_asked => k_is)
    (case l__law_all_asked => k_is)
    (case c__law_all_asked => k_is)
    (case k__law_all_asked => k_is)
    (case a_law => k_is)
    (case l_law => k_is)
    (case c_law => k_is)
    (case k_law => k_is)
    (case xs_NoNumber => kernel_rfl)
    (case xs_NoRate => kernel_rfl)
    (case xs_Twice => kernel_rfl)
    (case q_ib => kernel_rfl)
    (case q_o1NoNumber => kernel_rfl)
    (case q_o2NoNumber => kernel_rfl)
    (case q_vNoNumber => kernel_rfl)
    (case q_o1NoRate => kernel_rfl)
    (case q_o2NoRate => kernel_rfl)
    (case q_vNoRate => kernel_rfl)
    (case q_o1Twice => kernel_rfl)
    (case q_o2Twice => kernel_rfl)
    (case q_vTwice => kernel_rfl)
    (case q_mr => kernel_rfl)
    (case q_rr => kernel_rfl)
    (case q_rnt => kernel_rfl)
    (case q_mn => kernel_rfl)
    (case q_mw => kernel_rfl)
    (case q_nR => kernel_rfl)
    (case q_nN => kernel_rfl)
    (case q_nT => kernel_rfl)
    (case q_wR => kernel_rfl)
    (case q_wN => kernel_rfl)
    (case q_wT => kernel_rfl)
#print axioms PySem.Challenge.cw_groupbooks_k16_rates_by_day_holds
