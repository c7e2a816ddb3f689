import PyProof.Rows.All
import Wide.All
import OpenK.AllK
import Wide.FinOn
import Lean
import PyProof.EqAt
import PyProof.EqKinds
import PyProof.TupleCall
import PyProof.StationsW
import PyProof.RulesAs
import PyProof.ExcClass2
import PyProof.ExcInit
import PyProof.InstStore
import PyProof.ExcBaseAll.ValueError
import PyProof.ExcArgs
import PyProof.IsiBase
import PyProof.NsDelKeeps
import PyProof.CompFree
import PyProof.CompUse
import KE.LcSums
import PyProof.Rows.SortWalk
import PyProof.DictWalks
import PyProof.Rows.MinMaxN
import PyProof.Rows.DictUnroll
import PyProof.StrBlockI
import PyProof.NeKinds
import PyProof.AutoListH
import KE.KItemsList
import KE.RegMulBits
import KE.KDictOf
import PyProof.AttrMissHeap
import KE.KDictList
import KE.KRevIter
import KE.KSortTup
import PyProof.Rows.EnumRows
import PyProof.EnumFor
import PyProof.ConsumeWalk
import PyProof.TupleOfSeq
import PyProof.Draws
import PySem.Challenge.RW_groupbooks_k36_whole_closed_stay
set_option maxHeartbeats 4000000
section
open PySem PySem.W PyProof.Rows
set_option maxRecDepth 100000
set_option maxHeartbeats 0
noncomputable def K36.runTop (p : Program) (w : World) (m : Nat) : Nat → SharedT → Thread → Option SharedT
 | 0, _, _ => none
 | k + 1, s, t => match through t with
   | true => some s
   | false => match PySem.W.Fast.tw6613529449190102663 m (some (.ref 6)) t with
     | false => none
     | true => match PySem.W.Fast.tw10156331382660048174 (PySem.W.Fast.tw11892475500146522536 treeTable) p w s t with
       | some x => K36.runTop p w m k x.1 x.2
       | none => none
theorem K36.runTop_eq (p : Program) (w : World) (m : Nat) : ∀ (k : Nat) (s s' : SharedT) (t : Thread),
   K36.runTop p w m k s t = some s' → topRun treeTable p w m (some (.ref 6)) k s.abs t = some s'.abs
 | 0, _, _, _, h => by cases h
 | k + 1, s, s', t, h => by
   unfold K36.runTop at h
   unfold topRun
   cases hT : through t with
   | true => rw [hT] at h; cases h; rfl
   | false =>
     rw [hT] at h
     dsimp only at h ⊢
     rw [← PySem.W.Fast.te6613529449190102663] at h
     cases hk : stepOk m (some (.ref 6)) t with
     | false => rw [hk] at h; exact absurd h (by simp)
     | true =>
       rw [hk] at h
       dsimp only at h ⊢
       rw [← PySem.W.Fast.te10156331382660048174, ← PySem.W.Fast.te11892475500146522536] at h
       cases hs : stepT (denote treeTable) p w s t with
       | none => rw [hs] at h; exact absurd h (by simp)
       | some x =>
         rw [hs] at h
         rw [stepT_spec (s' := x.1) (t' := x.2) hs]
         exact K36.runTop_eq p w m k _ _ _ h
noncomputable def K36.bootT (P : Params) : BT := ((boot_heap P).objs.toList.foldl (fun a o => (a.1.ins a.2 o, a.2 + 1)) (BT.nil, 0)).1
theorem K36.boot_is (P : Params) : absHeap (K36.bootT P) 11 (boot_heap P).life = boot_heap P := by kernel_rfl
theorem K36.boot_has (P : Params) : ((boot_heap P).isNs mainGlobals, (boot_heap P).objs.size, (boot_heap P).nsMap mainGlobals "__annotations__") = (true, 11, some (.ref 6)) := by kernel_rfl
theorem K36.leftAtOnce {p q : Program} {lo : List Str} {A : Shared → Bool} {β : Type} {B : Shared → β} {D : World → β} {N : Nat} {g : Bool}
   (e : opening p = plainProg p.main.scope.names) (f : ∀ s, fenceModules? p s = some s) (hN : Nat.ble 600 N = true)
   (h : ∀ (w : World) (os : OsState), (K36.runTop p w 11 N ⟨K36.bootT w.params, 11, (boot_heap w.params).life, Array.mk [], boot_drawn, boot_toks, os⟩ (topStub p)).map
     (fun s => (staticsOk (importedModules p.main.body) (boot_heap w.params) s.abs.heap && namesBound p s.abs.heap && gensDone s.abs && laidKept (boot_heap w.params) s.abs.heap,
       openSeen q lo (importedModules p.main.body) A g s.abs, B s.abs)) = some (true, openGood q lo, D w)) : LeftO p q lo A B D N g := by
 intro w
 obtain ⟨⟨hh, gs, d, k, os⟩, e1, e2⟩ := Option.map_eq_some_iff.mp (boot_open e hN f w)
 obtain ⟨rfl, rfl, rfl, rfl⟩ : hh = boot_heap w.params ∧ gs = Array.mk [] ∧ d = boot_drawn ∧ k = boot_toks := by simpa using e2
 obtain ⟨s, h1, h2⟩ := Option.map_eq_some_iff.mp (h w os)
 have h3 := K36.runTop_eq _ _ _ _ _ _ _ h1
 have h4 := K36.boot_has w.params
 simp only [Prod.mk.injEq] at h2 h4
 unfold openEnds
 rw [e1]
 change Option.map _ (topFrom treeTable p w N _) = _
 unfold topFrom
 dsimp only
 rw [h4.1, h4.2.1, h4.2.2]
 have h5 : SharedT.abs ⟨K36.bootT w.params, 11, (boot_heap w.params).life, Array.mk [], boot_drawn, boot_toks, os⟩ = ⟨boot_heap w.params, Array.mk [], boot_drawn, boot_toks, os⟩ := by
   unfold SharedT.abs
   rw [K36.boot_is]
 rw [h5] at h3
 show ((topRun treeTable p w 11 (some (.ref 6)) N _ _).bind _).map _ = _
 rw [h3]
 dsimp only [Option.bind]
 rw [h2.1]
 show some (_, _) = _
 rw [h2.2.1, h2.2.2]
def K36.sieve {α : Type} : List α → List Bool → List α
 | a :: l, b :: m => bif b then a :: sieve l m else sieve l m
 | _, _ => []
def K36.headView : Program := { PySem.Challenge.pw_groupbooks_k36_whole_closed_stay with main := { PySem.Challenge.pw_groupbooks_k36_whole_closed_stay.main with
 body := K36.sieve PySem.Challenge.pw_groupbooks_k36_whole_closed_stay.main.body [false, false, false, false, false, false, false, false, false, false, false, false, false, false, false, false, false, false, false, false, false, false, false, false, false, false, false, false, false, false, false, false, false, false, false, false, false, false, true] } }
set_option hygiene false in
local macro_rules | `(tactic| o_head $H) => `(tactic|
 refine holds_open (q := K36.headView) (loose := [PySem.Str.ofString "BooksError", PySem.Str.ofString "Unbalanced", PySem.Str.ofString "Closed", PySem.Str.ofString "BadPaper", PySem.Str.ofString "NoFirm", PySem.Str.ofString "rests_of", PySem.Str.ofString "month_of", PySem.Str.ofString "put_together", PySem.Str.ofString "figures_of", PySem.Str.ofString "check_entry", PySem.Str.ofString "Book", PySem.Str.ofString "paper_copy", PySem.Str.ofString "KeptBook", PySem.Str.ofString "movement_of", PySem.Str.ofString "carried", PySem.Str.ofString "paper_holds", PySem.Str.ofString "_law_cell", PySem.Str.ofString "_law_whole", PySem.Str.ofString "_law_names", PySem.Str.ofString "_law_amount", PySem.Str.ofString "_law_lines", PySem.Str.ofString "_law_figures", PySem.Str.ofString "_law_upto", PySem.Str.ofString "_law_paper", PySem.Str.ofString "_law_papers", PySem.Str.ofString "_law_copies", PySem.Str.ofString "_law_look", PySem.Str.ofString "_law_posted", PySem.Str.ofString "_law_opened", PySem.Str.ofString "_law_other", PySem.Str.ofString "_law_step", PySem.Str.ofString "_law_end"]) (N := 20000)
   (Yf := Hook.obs $H) (Ya := Hook.val $H) (YP := Hook.says $H)
   (XP := XL K36.headView []) (Xt := fun s => xlAt K36.headView [] s && recOk (RowW.records (OpenRow.toRowW (OpenLaw.row PySem.Challenge.rw_groupbooks_k36_whole_closed_stay))) s)
   (K36.leftAtOnce (by kernel_rfl) (fun s => by kernel_rfl) rfl (fun w os => by kernel_rfl)) (Hook.of $H) (Hook.keeps $H)
   (fun s e => xl_of s (Bool.and_eq_true_iff.mp e).1)
   XL.keeps (by rfl) (by rfl) (by rfl)
   (fun s e => recFacts_of (Bool.and_eq_true_iff.mp e).2) (by rfl) (by assumption) (by decide +kernel)
   ⟨rfl, rfl, rfl, rfl, rfl, by decide +kernel⟩ ?hw ?hc)
open_top K36.headTop for PySem.Challenge.rw_groupbooks_k36_whole_closed_stay
end
set_option Elab.async false
set_option linter.all false
namespace L2
open PySem PySem.Spec PyProof.Rows
abbrev Key := Sum Int Str
def keyIs : Key → Value → Bool
 | .inl k, v => Value.isInt k v
 | .inr x, v => Value.isStrOf x v
def keyH (w : World) : Key → Int
 | .inl k => hashInt k
 | .inr x => hashStr w x
theorem keyIs_shape : ∀ {k : Key} {v : Value}, keyIs k v = true → (∃ i t, k = Sum.inl i ∧ v = Value.int i t) ∨ (∃ x t, k = Sum.inr x ∧ v = Value.str x t)
 | .inl i, v, h => by
   obtain ⟨t, e⟩ := Value.isInt_shape (k := i) (v := v) h
   exact .inl ⟨i, t, rfl, e⟩
 | .inr x, v, h => by
   obtain ⟨t, e⟩ := Value.isStrOf_shape (x := x) (v := v) h
   exact .inr ⟨x, t, rfl, e⟩
theorem keyIs_int (i : Int) (t : Tok) : keyIs (.inl i) (.int i t) = true := by simp [keyIs, Value.isInt]
theorem keyIs_str (x : Str) (t : Tok) : keyIs (.inr x) (.str x t) = true := by simp [keyIs, Value.isStrOf]
theorem key_ll (a b : Int) : decide ((Sum.inl a : Key) = Sum.inl b) = (a == b) := by
 by_cases e : a = b
 · subst e; simp
 · have h : ¬ (Sum.inl a : Key) = Sum.inl b := fun q => e (Sum.inl.inj q)
   rw [decide_eq_false h]
   exact (beq_eq_false_iff_ne.mpr e).symm
theorem key_rr (a b : Str) : decide ((Sum.inr a : Key) = Sum.inr b) = decide (a = b) := by
 by_cases e : a = b
 · subst e; simp
 · have h : ¬ (Sum.inr a : Key) = Sum.inr b := fun q => e (Sum.inr.inj q)
   rw [decide_eq_false h, decide_eq_false e]
theorem key_lr (a : Int) (b : Str) : decide ((Sum.inl a : Key) = Sum.inr b) = false := decide_eq_false (fun q => nomatch q)
theorem key_rl (a : Str) (b : Int) : decide ((Sum.inr a : Key) = Sum.inl b) = false := decide_eq_false (fun q => nomatch q)
def mixKind (prog : Program) (w : World) : PySem.KeyKind prog w Key where
 is := keyIs
 hash := keyH w
 inj := fun v a b ha hb => by
   rcases keyIs_shape ha with ⟨i, t, rfl, rfl⟩ | ⟨x, t, rfl, rfl⟩
   · rcases keyIs_shape hb with ⟨j, u, rfl, e⟩ | ⟨y, u, rfl, e⟩
     · injection e with e1 _; rw [e1]
     · exact nomatch e
   · rcases keyIs_shape hb with ⟨j, u, rfl, e⟩ | ⟨y, u, rfl, e⟩
     · exact nomatch e
     · injection e with e1 _; rw [e1]
 byValue := fun k v h => by
   rcases keyIs_shape h with ⟨i, t, rfl, rfl⟩ | ⟨x, t, rfl, rfl⟩ <;> rfl
 pyHash := fun hv h => by
   rcases keyIs_shape hv with ⟨i, t, rfl, rfl⟩ | ⟨x, t, rfl, rfl⟩
   · exact wpAny_pyHash_int h
   · exact wpAny_pyHash_str h
 eqBool := fun hu hv h => by
   rcases keyIs_shape hu with ⟨i, t, rfl, rfl⟩ | ⟨x, t, rfl, rfl⟩
   · rcases keyIs_shape hv with ⟨j, u, rfl, rfl⟩ | ⟨y, u, rfl, rfl⟩
     · rw [key_ll] at h; exact wpAny_eqBool_int h
     · rw [key_lr] at h; exact SeqAt.EqAt.int_str i t y u _ _ _ _ h
   · rcases keyIs_shape hv with ⟨j, u, rfl, rfl⟩ | ⟨y, u, rfl, rfl⟩
     · rw [key_rl] at h; exact SeqAt.EqAt.str_int x t j u _ _ _ _ h
     · rw [key_rr] at h; exact wpAny_eqBool_str h
 «strs» := fun k x t v h => by
   rcases keyIs_shape h with ⟨i, u, rfl, e⟩ | ⟨y, u, rfl, e⟩
   · exact nomatch e
   · injection e with e1 _
     subst e1
     cases v <;> rfl
theorem mixKind_int (prog : Program) (w : World) (i : Int) (t : Tok) : (mixKind prog w).is (.inl i) (.int i t) = true := keyIs_int i t
theorem mixKind_str (prog : Program) (w : World) (x : Str) (t : Tok) : (mixKind prog w).is (.inr x) (.str x t) = true := keyIs_str x t
end L2
namespace L2
open PySem PySem.Spec PyProof.Rows
inductive V where
 | non | bl (b : Bool) | int (i : Int) | str (x : Str) | byt (b : Array UInt8) | flt (b : UInt64) | ref (a : Addr) | ty (n : String)
 deriving DecidableEq
def RelV : V → Value → Prop
 | .non, u => u = Value.none
 | .bl b, u => u = Value.bool b
 | .int i, u => ∃ t, u = Value.int i t
 | .str x, u => ∃ t, u = Value.str x t
 | .byt b, u => ∃ t, u = Value.bytes b t
 | .flt b, u => ∃ t, u = Value.float b t
 | .ref a, u => u = Value.ref a
 | .ty n, u => u = Value.type n
abbrev Vals : List V → List Value → Prop := Paired RelV
theorem Vals.length {xs : List V} {us : List Value} (r : Vals xs us) : xs.length = us.length := Paired.length r
theorem Vals.get : ∀ {xs : List V} {us : List Value} {i : Nat} {x : V}, Vals xs us → xs[i]? = some x → ∃ u, us[i]? = some u ∧ RelV x u
 | _, _, _, _, .nil, e => by simp at e
 | _, _, 0, _, .cons r _, e => by simp at e; subst e; exact ⟨_, rfl, r⟩
 | _, _, i + 1, x, .cons _ t, e => by
   obtain ⟨u, h1, h2⟩ := Vals.get (i := i) (x := x) t (by simpa using e)
   exact ⟨u, by simpa using h1, h2⟩
theorem Vals.set {x : V} {u : Value} (r : RelV x u) : ∀ {xs : List V} {us : List Value} (i : Nat), Vals xs us → Vals (xs.set i x) (us.set i u)
 | _, _, _, .nil => .nil
 | _, _, 0, .cons _ t => .cons r t
 | _, _, i + 1, .cons q t => .cons q (Vals.set r i t)
theorem Vals.append : ∀ {xs ys : List V} {us ws : List Value}, Vals xs us → Vals ys ws → Vals (xs ++ ys) (us ++ ws)
 | _, _, _, _, .nil, s => s
 | _, _, _, _, .cons r t, s => .cons r (Vals.append t s)
theorem Vals.take : ∀ {xs : List V} {us : List Value} (n : Nat), Vals xs us → Vals (xs.take n) (us.take n)
 | _, _, 0, _ => .nil
 | _, _, _ + 1, .nil => .nil
 | _, _, n + 1, .cons r t => .cons r (Vals.take n t)
theorem Vals.drop : ∀ {xs : List V} {us : List Value} (n : Nat), Vals xs us → Vals (xs.drop n) (us.drop n)
 | _, _, 0, r => r
 | _, _, _ + 1, .nil => .nil
 | _, _, n + 1, .cons _ t => Vals.drop n t
theorem Vals.none_of : ∀ {xs : List V} {us : List Value} {i : Nat}, Vals xs us → xs[i]? = none → us[i]? = none := fun {xs us i} r e => by
 have h1 := r.length
 have h2 : xs.length ≤ i := List.getElem?_eq_none_iff.mp e
 exact List.getElem?_eq_none_iff.mpr (by omega)
def RelO : Option V → Option Value → Prop
 | some v, some u => RelV v u
 | none, none => True
 | _, _ => False
def KV {κ : Type} : List (κ × V) → List (κ × Value) → Prop := Paired fun (p : κ × V) (q : κ × Value) => p.1 = q.1 ∧ RelV p.2 q.2
def kV : Key → V
 | .inl i => .int i
 | .inr x => .str x
inductive HO where
 /-- a list -/
 | lst (xs : List V)
 /-- a tuple (never changes) -/
 | tup (xs : List V)
 /-- a dict whose keys are ints and texts; one whose keys are tuples of ints and texts (the empty one is both) -/
 | dK (kvs : List (Key × V)) | dT (kvs : List (List Key × V))
 /-- a set of ints: its members, its size -/
 | set (S : Int → Bool) (n : Nat)
 /-- an instance of the class at C, its dict at dx, its attributes -/
 | ins (C dx : Addr) (fs : List (Str × V))
 /-- the dict of the instance at x -/
 | own (x : Addr)
 /-- the dict of an exception -/
 | xd (fs : List (Str × V))
 /-- a bound method, f of x -/
 | met (f x : Addr)
 /-- a range object lo, lo + 1, .. below hi -/
 | rng (lo hi : Int)
 /-- a thing that is known to the object (the script; a dict while a loop walks it): read, never written while it is so -/
 | frz (o : Obj) (u : HO)
 /-- a code object's table -/
 | tbl (ps : Array Value)
 /-- any other thing, by what is true of its one object (a def of one's own: SetO a S n := HO.ext fun h => ..) -/
 | ext (φ : Heap → Prop)
abbrev Hp := Addr → Option HO
def upd (H : Hp) (a : Addr) (o : HO) : Hp := fun b => if b = a then some o else H b
theorem upd_same {H : Hp} {a : Addr} {o : HO} : upd H a o a = some o := by unfold upd; rw [if_pos rfl]
theorem upd_ne {H : Hp} {a b : Addr} {o : HO} (h : b ≠ a) : upd H a o b = H b := by unfold upd; rw [if_neg h]
theorem ne_of {H : Hp} {a b : Addr} {o u : HO} (h : H a = some o) (h' : H b = some u) (d : o ≠ u) : a ≠ b := by
 intro e; subst e; rw [h] at h'; exact d (Option.some.inj h')
theorem ne_of_none {H : Hp} {a b : Addr} {o : HO} (h : H a = some o) (h' : H b = none) : a ≠ b := by
 intro e; subst e; rw [h] at h'; cases h'
section
variable (P : Program) (w : World)
def ObjOk (H : Hp) (h : Heap) (a : Addr) : HO → Prop
 | .lst xs => xs.length ≤ sizeLine ∧ ∃ (its : List Value) (n : Nat), Vals xs its ∧ h.get? a = some { cls := .type "list", data := .seq its.toArray n }
 | .tup xs => xs.length ≤ sizeLine ∧ ∃ its : List Value, Vals xs its ∧ IsTup h a its.toArray
 | .dK kvs => kvs.length ≤ sizeLine ∧ (a == sysModules) = false ∧ ∃ vs, KV kvs vs ∧ h.DictOf (mixKind P w) a vs
 | .dT kvs => kvs.length ≤ sizeLine ∧ (a == sysModules) = false ∧ ∃ xs : List (List Key × Addr × Value),
     Paired (fun (p : List Key × V) (q : List Key × Addr × Value) => p.1 = q.1 ∧ H q.2.1 = some (.tup (p.1.map kV)) ∧ RelV p.2 q.2.2) kvs xs ∧
     ∃ o es ep, h.get? a = some o ∧ o.ExactDict ∧ o.data = .dict es ep ∧ es.toList = xs.map (entryOfKey (tupleKind (mixKind P w))) ∧ (xs.map (·.1)).Nodup
 | .set S n => h.SetOf (intKind P w) a S n
 | .ins C dx fs => H dx = some (.own a) ∧ fs.length ≤ 1000 ∧ dx ≠ a ∧ h.get? a = some (PySem.W.instObj C dx) ∧
     ∃ mA, h.Ns1 dx mA ∧ (∀ f, RelO (fs.lookup f) (mA f)) ∧ PySem.Within mA (fs.map (·.1))
 | .own _ => ∃ o, h.get? a = some o
 | .xd fs => ∃ mA, h.Ns1 a mA ∧ ∀ f, RelO (fs.lookup f) (mA f)
 | .rng lo hi => ∃ t u v, h.get? a = some { cls := .type "range", data := .fields #[.int lo t, .int hi u, .int 1 v] }
 | .frz o u => h.get? a = some o ∧ ObjOk H h a u
 | .tbl ps => h.get? a = some { cls := .none, data := .fields ps }
 | .met f x => h.get? a = some (PySem.W.methodObj (.ref f) (.ref x))
 | .ext φ => φ h ∧ (∃ o, h.get? a = some o) ∧ ∀ h1 h2 : Heap, φ h1 → (∀ o, h1.get? a = some o → h2.get? a = some o) → φ h2
def HOk (H : Hp) (h : Heap) : Prop := ∀ a o, H a = some o → ObjOk P w H h a o
end
section
variable {P : Program} {w : World} {H H' : Hp} {h h' : Heap} {a : Addr} {o : HO}
theorem ObjOk.lt (x : ObjOk P w H h a o) : a < h.objs.size := by
 cases o with
 | lst xs => obtain ⟨_, _, _, _, e⟩ := x; exact Heap.lt_size e
 | tup xs => obtain ⟨_, _, _, p⟩ := x; exact p.lt
 | dK kvs => obtain ⟨_, _, _, _, o, _, _, e, _⟩ := x; exact Heap.lt_size e
 | dT kvs => obtain ⟨_, _, _, _, o, _, _, e, _⟩ := x; exact Heap.lt_size e
 | set S n => obtain ⟨o, _, _, _, e, _⟩ := x; exact Heap.lt_size e
 | ins C dx fs => obtain ⟨_, _, _, e, _⟩ := x; exact Heap.lt_size e
 | own y => obtain ⟨_, e⟩ := x; exact Heap.lt_size e
 | xd fs => obtain ⟨_, ⟨_, _, _, e, _⟩, _⟩ := x; exact Heap.lt_size e
 | rng lo hi => obtain ⟨_, _, _, e⟩ := x; exact Heap.lt_size e
 | frz ob u => obtain ⟨e, _⟩ := x; exact Heap.lt_size e
 | tbl ps => exact Heap.lt_size (show h.get? a = some _ from x)
 | met f y => exact Heap.lt_size (show h.get? a = some _ from x)
 | ext φ => obtain ⟨_, ⟨_, e⟩, _⟩ := x; exact Heap.lt_size e
theorem Paired.mapP {α β : Type} {F G : α → β → Prop} : ∀ {l₁ : List α} {l₂ : List β}, Paired F l₁ l₂ → (∀ a b, F a b → G a b) → Paired G l₁ l₂
 | _, _, .nil, _ => .nil
 | _, _, .cons r t, f => .cons (f _ _ r) (Paired.mapP t f)
theorem ObjOk.stay (x : ObjOk P w H h a o) (k : ∀ b u, (b = a ∨ H b = some (.own a)) → h.get? b = some u → h'.get? b = some u)
   (ho : ∀ b, H b = some (.own a) → H' b = some (.own a)) (ht : ∀ b xs, H b = some (.tup xs) → H' b = some (.tup xs)) : ObjOk P w H' h' a o := by
 induction o with
 | lst xs => obtain ⟨z, its, n, r, e⟩ := x; exact ⟨z, its, n, r, k _ _ (.inl rfl) e⟩
 | tup xs => obtain ⟨z, its, r, ob, e, c⟩ := x; exact ⟨z, its, r, ob, k _ _ (.inl rfl) e, c⟩
 | dK kvs => obtain ⟨z, y, vs, r, ob, es, ep, e, c⟩ := x; exact ⟨z, y, vs, r, ob, es, ep, k _ _ (.inl rfl) e, c⟩
 | dT kvs =>
   obtain ⟨z, y, xs, r, ob, es, ep, e, c⟩ := x
   exact ⟨z, y, xs, Paired.mapP r fun p q z => ⟨z.1, ht _ _ z.2.1, z.2.2⟩, ob, es, ep, k _ _ (.inl rfl) e, c⟩
 | set S n => obtain ⟨ob, es, ep, t, e, c⟩ := x; exact ⟨ob, es, ep, t, k _ _ (.inl rfl) e, c⟩
 | ins C dx fs =>
   obtain ⟨d, z, ne, e, mA, ⟨od, es, ep, e2, c⟩, r⟩ := x
   exact ⟨ho _ d, z, ne, k _ _ (.inl rfl) e, mA, ⟨od, es, ep, k _ _ (.inr d) e2, c⟩, r⟩
 | own y => obtain ⟨ob, e⟩ := x; exact ⟨ob, k _ _ (.inl rfl) e⟩
 | xd fs => obtain ⟨mA, ⟨od, es, ep, e, c⟩, r⟩ := x; exact ⟨mA, ⟨od, es, ep, k _ _ (.inl rfl) e, c⟩, r⟩
 | rng lo hi => obtain ⟨t, u, v, e⟩ := x; exact ⟨t, u, v, k _ _ (.inl rfl) e⟩
 | frz ob u ih => obtain ⟨e, q⟩ := x; exact ⟨k _ _ (.inl rfl) e, ih q⟩
 | tbl ps =>
   have e : h.get? a = some { cls := .none, data := .fields ps } := x
   show h'.get? a = some { cls := .none, data := .fields ps }
   exact k a _ (.inl rfl) e
 | met f y =>
   have e : h.get? a = some (PySem.W.methodObj (.ref f) (.ref y)) := x
   show h'.get? a = some (PySem.W.methodObj (.ref f) (.ref y))
   exact k a _ (.inl rfl) e
 | ext φ => obtain ⟨p, ⟨o, e⟩, st⟩ := x; exact ⟨st _ _ p fun o q => k _ _ (.inl rfl) q, ⟨o, k _ _ (.inl rfl) e⟩, st⟩
theorem HOk.lt (x : HOk P w H h) (e : H a = some o) : a < h.objs.size := (x a o e).lt
theorem HOk.fresh (x : HOk P w H h) (e : h.objs.size ≤ a) : H a = none := by
 cases q : H a with
 | none => rfl
 | some u => exact absurd (Nat.lt_of_lt_of_le (x.lt q) e) (Nat.lt_irrefl _)
theorem HOk.kept (x : HOk P w H h) (k : ∀ b u, h.get? b = some u → h'.get? b = some u) : HOk P w H h' := fun a o e =>
 (x a o e).stay (fun b u _ q => k b u q) (fun _ q => q) fun _ _ q => q
theorem HOk.laid (x : HOk P w H h) (k : ∀ b u, h.get? b = some u → h'.get? b = some u) (hp : h.objs.size ≤ a) (new : ObjOk P w (upd H a o) h' a o) : HOk P w (upd H a o) h' := fun b u e => by
 have hn := x.fresh hp
 by_cases hb : b = a
 · subst hb; rw [upd_same] at e; cases e; exact new
 · rw [upd_ne hb] at e
   exact (x b u e).stay (fun c v _ q => k c v q) (fun c q => by rw [upd_ne (ne_of_none q hn)]; exact q) fun c xs q => by rw [upd_ne (ne_of_none q hn)]; exact q
end
def Rd (H : Hp) (a : Addr) (u : HO) : Prop := H a = some u ∨ ∃ o, H a = some (.frz o u)
theorem Rd.of {H : Hp} {a : Addr} {u : HO} (h : H a = some u) : Rd H a u := .inl h
theorem Rd.ok {P : Program} {w : World} {H : Hp} {h : Heap} {a : Addr} {u : HO} (r : Rd H a u) (x : HOk P w H h) : ObjOk P w H h a u := by
 rcases r with r | ⟨o, r⟩
 · exact x a u r
 · obtain ⟨_, q⟩ := x a _ r
   exact q
def Mut : Option HO → Prop
 | some (.lst _) => True
 | some (.dK _) => True
 | some (.dT _) => True
 | some (.set _ _) => True
 | some (.ins _ _ _) => True
 | some (.ext _) => True
 | _ => False
section
variable {P : Program} {w : World} {H : Hp} {h h' : Heap} {x e : Addr} {o' : HO}
theorem HOk.write (ok : HOk P w H h) (mu : Mut (H x)) (he : e = x ∨ H e = some (.own x)) (k : ∀ b u, b ≠ e → h.get? b = some u → h'.get? b = some u) (heo : ∃ u, h'.get? e = some u)
   (new : ObjOk P w (upd H x o') h' x o') : HOk P w (upd H x o') h' := fun b u q => by
 have nown : ∀ c y, H c = some (.own y) → c ≠ x := fun c y r z => by subst z; rw [r] at mu; exact mu
 have ntup : ∀ c xs, H c = some (.tup xs) → c ≠ x := fun c xs r z => by subst z; rw [r] at mu; exact mu
 by_cases hb : b = x
 · subst hb; rw [upd_same] at q; cases q; exact new
 · rw [upd_ne hb] at q
   by_cases hbe : b = e
   · have q' : H b = some (.own x) := by
       rcases he with z | z
       · exact absurd (hbe.trans z) hb
       · rw [hbe]; exact z
     rw [q] at q'; cases q'
     obtain ⟨v, hv⟩ := heo
     exact ⟨v, by rw [hbe]; exact hv⟩
   · refine (ok b u q).stay (fun c v hc r => k c v ?_ r) (fun c r => by rw [upd_ne (nown c b r)]; exact r) fun c xs r => by rw [upd_ne (ntup c xs r)]; exact r
     rcases hc with rfl | hc
     · exact hbe
     · rintro rfl
       rcases he with z | z
       · exact nown c b hc z
       · rw [hc] at z; cases z; exact hb rfl
end
structure Un (fs ex : List Addr) (H H' : Hp) (h h' : Heap) : Prop where
 keep : ∀ b o, h.get? b = some o → H b = none → b ∉ fs → b ∉ ex → h'.get? b = some o
 slot : ∀ b o, h.get? b = some o → H b = none → b ∈ fs → b ∉ ex → ∃ sl, h'.get? b = some { o with slots := sl }
 free : ∀ b o, h.get? b = some o → H b = none → b ∉ ex → H' b = none
 there : ∀ b o, h.get? b = some o → b ∉ ex → ∃ o', h'.get? b = some o'
 tups : ∀ b xs, H b = some (.tup xs) → H' b = some (.tup xs)
 frzs : ∀ b o u, H b = some (.frz o u) → H' b = some (.frz o u)
 tbls : ∀ b ps, H b = some (.tbl ps) → ∃ more, H' b = some (.tbl (ps ++ more))
section
variable {fs fs' ex ex' : List Addr} {H H1 H2 : Hp} {h h1 h2 h' : Heap} {a x e : Addr} {o : HO}
theorem Un.any (u : Un fs ex H H1 h h1) {b : Addr} {ob : Obj} (q : h.get? b = some ob) (n : H b = none) (hx : b ∉ ex) : ∃ sl, h1.get? b = some { ob with slots := sl } := by
 by_cases hb : b ∈ fs
 · exact u.slot b ob q n hb hx
 · exact ⟨ob.slots, u.keep b ob q n hb hx⟩
theorem Un.trans (a : Un fs ex H H1 h h1) (b : Un fs ex H1 H2 h1 h2) : Un fs ex H H2 h h2 where
 keep := fun c ob q n hc hx => b.keep c ob (a.keep c ob q n hc hx) (a.free c ob q n hx) hc hx
 slot := fun c ob q n hc hx => by
   obtain ⟨sl, e1⟩ := a.slot c ob q n hc hx
   obtain ⟨sl', e2⟩ := b.slot c _ e1 (a.free c ob q n hx) hc hx
   exact ⟨sl', e2⟩
 free := fun c ob q n hx => by
   obtain ⟨o', e1⟩ := a.there c ob q hx
   exact b.free c o' e1 (a.free c ob q n hx) hx
 there := fun c ob q hx => by
   obtain ⟨o', e1⟩ := a.there c ob q hx
   exact b.there c o' e1 hx
 tups := fun c xs q => b.tups c xs (a.tups c xs q)
 frzs := fun c ob xs q => b.frzs c ob xs (a.frzs c ob xs q)
 tbls := fun c ps q => by
   obtain ⟨m1, e1⟩ := a.tbls c ps q
   obtain ⟨m2, e2⟩ := b.tbls c _ e1
   exact ⟨m1 ++ m2, by rw [e2, Array.append_assoc]⟩
theorem Un.kept (k : ∀ b u, h.get? b = some u → h'.get? b = some u) : Un fs ex H H h h' :=
 ⟨fun b ob q _ _ _ => k b ob q, fun b ob q _ _ _ => ⟨ob.slots, k b ob q⟩, fun _ _ _ n _ => n, fun b ob q _ => ⟨ob, k b ob q⟩, fun _ _ q => q, fun _ _ _ q => q, fun _ ps q => ⟨#[], by rw [q]; simp⟩⟩
theorem Un.refl : Un fs ex H H h h := Un.kept fun _ _ q => q
theorem Un.laid (k : ∀ b u, h.get? b = some u → h'.get? b = some u) (hp : h.objs.size ≤ a) (hn : H a = none) : Un fs ex H (upd H a o) h h' where
 keep := fun b u q _ _ _ => k b u q
 slot := fun b u q _ _ _ => ⟨u.slots, k b u q⟩
 free := fun b u q n _ => by rw [upd_ne (Nat.ne_of_lt (Nat.lt_of_lt_of_le (Heap.lt_size q) hp))]; exact n
 there := fun b u q _ => ⟨u, k b u q⟩
 tups := fun b xs q => by rw [upd_ne (ne_of_none q hn)]; exact q
 frzs := fun b u xs q => by rw [upd_ne (ne_of_none q hn)]; exact q
 tbls := fun b ps q => ⟨#[], by rw [upd_ne (ne_of_none q hn), q]; simp⟩
theorem Un.write (mu : Mut (H x)) (he : e = x ∨ H e = some (.own x)) (k : ∀ b u, b ≠ e → h.get? b = some u → h'.get? b = some u) (heo : ∃ u, h'.get? e = some u) : Un fs ex H (upd H x o) h h' := by
 have hx : ∀ b, H b = none → b ≠ x := fun b n z => by subst z; rw [n] at mu; exact mu
 have hb : ∀ b, H b = none → b ≠ e := fun b n z => by
   subst z
   rcases he with r | r
   · exact hx b n r
   · rw [n] at r; cases r
 have hm : ∀ b u, H b = some u → ¬ Mut (some u) → b ≠ x := fun b u q nm z => by subst z; rw [q] at mu; exact nm mu
 refine ⟨fun b u q n _ _ => k b u (hb b n) q, fun b u q n _ _ => ⟨u.slots, k b u (hb b n) q⟩, fun b u q n _ => by rw [upd_ne (hx b n)]; exact n, fun b u q _ => ?_,
   fun b xs q => by rw [upd_ne (hm b _ q fun z => z)]; exact q, fun b u xs q => by rw [upd_ne (hm b _ q fun z => z)]; exact q, fun b ps q => ⟨#[], by rw [upd_ne (hm b _ q fun z => z), q]; simp⟩⟩
 by_cases hbe : b = e
 · subst hbe; exact heo
 · exact ⟨u, k b u hbe q⟩
theorem Un.mono (u : Un fs ex H H1 h h1) (hs : ∀ b ∈ fs, b ∈ fs') (hx : ∀ b ∈ ex, b ∈ ex') : Un fs' ex' H H1 h h1 :=
 ⟨fun b ob q n hb he => u.keep b ob q n (fun z => hb (hs b z)) fun z => he (hx b z), fun _ _ q n _ he => u.any q n fun z => he (hx _ z), fun b ob q n he => u.free b ob q n fun z => he (hx b z), fun b ob q he => u.there b ob q fun z => he (hx b z), u.tups, u.frzs, u.tbls⟩
end
def trk (h : Heap) (H : Hp) : List Addr := (List.range h.objs.size).filter fun a => (H a).isSome
def hidT (h : Heap) (H : Hp) : Heap := PySem.W.hideAll h (trk h H)
theorem hidT_size (h : Heap) (H : Hp) : (hidT h H).objs.size = h.objs.size := PySem.W.hideAll_size _ _
theorem hidT_get {h : Heap} {H : Hp} {b : Addr} {o : Obj} (e : h.get? b = some o) (n : H b = none) : (hidT h H).get? b = some o :=
 PySem.W.hideAll_get _ e fun hm => by
   have q : (H b).isSome = true := (List.mem_filter.mp hm).2
   rw [n] at q; simp at q
theorem of_hidT {h : Heap} {H : Hp} {b : Addr} {o : Obj} (e : (hidT h H).get? b = some o) : h.get? b = some o ∧ H b = none := by
 have e' : h.get? b = some o := PySem.W.of_hideAll (trk h H) e
 refine ⟨e', ?_⟩
 cases q : H b with
 | none => rfl
 | some x =>
   have hm : b ∈ trk h H := List.mem_filter.mpr ⟨List.mem_range.mpr (Heap.lt_size e'), by simp [q]⟩
   have z : (hidT h H).get? b = none := PySem.W.hideAll_none (trk h H) hm
   rw [z] at e; cases e
def allNews (g h : Heap) (L : Addr) : List (Addr × Obj) := (List.range h.objs.size).filterMap fun a => if a = L ∨ (g.get? a).isSome = true then none else (h.get? a).map fun o => (a, o)
def rest (g h : Heap) (L d : Addr) : List (Addr × Obj) := (allNews g h L).filter fun p => decide (p.1 ≠ d)
end L2
namespace L2
open PySem PySem.Spec PyProof.Rows
structure Mod (K : PySem.W.Frag) (mg : Str → Option Value) (base : Heap) : Prop where
 kin : K.In base
 glob : base.Ns mainGlobals mg
 blt : ∃ mb, base.Ns builtinsNs mb ∧ ∀ x : Str, x ≠ "__name__" → mb x = bootBuiltins x
 nolimit : base.NoLimit
structure Cx where
 prog : Program
 w : World
 K : PySem.W.Frag
 mg : Str → Option Value
 base : Heap
 A : Around
 N : List Str
 s₀ : Shared
 H₀ : Hp
 env : Env
 outer : List Env
 stack : List Env
 ex : List Addr
 fn : Str → Bool
 calm : Bool
 pn : List (Addr × Obj)
 xe : Value → Shared → Prop
def frs (l : List Env) : List Addr := l.filterMap (·.frame)
abbrev Cx.fs (X : Cx) : List Addr := frs X.outer
def Vis (sc : Scope) (x : Str) : Prop := sc.names.lookup x = some .local ∨ sc.names.lookup x = some .cell ∨ sc.names.lookup x = some .free
def Loc (sc : Scope) (x : Str) : Prop := sc.names.lookup x = some .local ∨ sc.names.lookup x = some .cell
def Look (env : Env) (h : Heap) (m : Str → Option Value) (x : Str) (u : Value) : Prop :=
 (env.kindOf x = some .local ∧ m x = some u) ∨ ((env.kindOf x = some .cell ∨ env.kindOf x = some .free) ∧ ∃ c, env.cells.lookup x = some c ∧ h.IsCell c (some u))
structure Cx.Ok (X : Cx) : Prop where
 mod : Mod X.K X.mg X.base
 kind : X.env.scope.kind = .function
 glob : X.env.globals = mainGlobals
 blt : X.env.builtins = builtinsNs
 above : X.s₀.heap.objs.size ≤ X.env.locals
 inj : ∀ x y c, X.env.cells.lookup x = some c → X.env.cells.lookup y = some c → x = y
 has : ∀ x, (X.env.kindOf x = some .cell ∨ X.env.kindOf x = some .free) → ∃ c, X.env.cells.lookup x = some c
 cab : ∀ x c, X.fn x = true → X.env.cells.lookup x = some c → X.s₀.heap.objs.size ≤ c
 hd : X.calm = true → X.A.handled = none
 frames : X.A.frames = some X.stack
 stk : X.stack = X.outer ∨ (X.stack = X.env :: X.outer ∧ X.env.frame = some X.env.locals)
 exf : ∀ b ∈ X.ex, b ≠ X.env.locals ∧ ∀ x c, X.env.cells.lookup x = some c → c ≠ b
 bs : ∀ b o, X.base.get? b = some o → X.s₀.heap.get? b = some o ∧ X.H₀ b = none
 bsz : X.base.objs.size ≤ X.s₀.heap.objs.size
 noex : ∀ b o, X.base.get? b = some o → b ∉ X.ex
 exfs : ∀ b ∈ X.ex, b ∉ X.fs
 funs : X.s₀.heap.FunFrames X.base X.outer
 frf : ∀ b ∈ X.fs, X.H₀ b = none
structure Inv (X : Cx) (pins : List (Addr × Obj)) (σ : List (Option V)) (H : Hp) (s : Shared) : Prop where
 ok : X.Ok
 os : s.os = X.s₀.os
 bare : AllBare s.gens
 base : Un X.fs X.ex X.H₀ H X.s₀.heap s.heap
 loc : ∃ m, s.heap.Ns X.env.locals m ∧ ∀ (i : Nat) (x : Str) (v : V), X.N[i]? = some x → σ[i]? = some (some v) → Vis X.env.scope x → ∃ u, RelV v u ∧ Look X.env s.heap m x u
 cell : ∀ x c, X.env.cells.lookup x = some c → ∃ v, s.heap.IsCell c v
 free : H X.env.locals = none
 freeC : ∀ x c, X.env.cells.lookup x = some c → H c = none
 pin : ∀ p ∈ X.pn ++ pins, s.heap.get? p.1 = some p.2 ∧ H p.1 = none ∧ p.1 ≠ X.env.locals ∧ p.1 ∉ X.fs ∧ ∀ v, p.2.data ≠ .cell v
 hok : HOk X.prog X.w H s.heap
 len : σ.length = X.N.length
section
variable {X : Cx} {pins : List (Addr × Obj)} {σ : List (Option V)} {H H' : Hp} {s : Shared} {h' : Heap}
theorem Cx.Ok.nofr (ok : X.Ok) {b : Addr} {o : Obj} (e : X.base.get? b = some o) : b ∉ X.fs := fun hb => by
 have := (ok.funs.mem hb).1
 rw [e] at this; cases this
theorem Inv.bs (I : Inv X pins σ H s) : ∀ b o, X.base.get? b = some o → s.heap.get? b = some o ∧ H b = none := fun b o e =>
 ⟨I.base.keep b o (I.ok.bs b o e).1 (I.ok.bs b o e).2 (I.ok.nofr e) (I.ok.noex b o e), I.base.free b o (I.ok.bs b o e).1 (I.ok.bs b o e).2 (I.ok.noex b o e)⟩
theorem Inv.bk (I : Inv X pins σ H s) : ∀ b o, X.base.get? b = some o → s.heap.get? b = some o := fun b o e => (I.bs b o e).1
theorem Inv.mod (I : Inv X pins σ H s) : Mod X.K X.mg X.base := I.ok.mod
theorem Inv.kIn (I : Inv X pins σ H s) : X.K.In s.heap := I.ok.mod.kin.keeps I.bk
theorem Inv.nolimit (I : Inv X pins σ H s) : s.heap.NoLimit := I.ok.mod.nolimit.keeps I.bk
theorem Inv.fr (I : Inv X pins σ H s) : ∃ m, Fr X.base X.env.locals s.heap m :=
 let ⟨m, hn, _⟩ := I.loc
 ⟨m, hn, I.bk, Nat.le_trans I.ok.bsz I.ok.above⟩
theorem Inv.lt (I : Inv X pins σ H s) : X.env.locals < s.heap.objs.size := let ⟨_, hn, _⟩ := I.loc; hn.lt
theorem Inv.sz (I : Inv X pins σ H s) : X.s₀.heap.objs.size ≤ s.heap.objs.size := Nat.le_trans I.ok.above (Nat.le_of_lt I.lt)
theorem Inv.nofs (I : Inv X pins σ H s) {a : Addr} (h : s.heap.objs.size ≤ a) : a ∉ X.fs := fun hb => by
 obtain ⟨_, o, ho, _⟩ := I.ok.funs.mem hb
 exact absurd (Nat.lt_of_lt_of_le (Heap.lt_size ho) (Nat.le_trans I.sz h)) (Nat.lt_irrefl _)
theorem Inv.cne (I : Inv X pins σ H s) : ∀ x c, X.env.cells.lookup x = some c → c ≠ X.env.locals := fun x c e z => by
 obtain ⟨v, o, ho, hd⟩ := I.cell x c e
 obtain ⟨m, ⟨o', es, ep, ho', hd', _⟩, _⟩ := I.loc
 rw [z, ho'] at ho; cases ho; rw [hd'] at hd; cases hd
theorem Inv.funs (I : Inv X pins σ H s) : s.heap.FunFrames X.base X.outer := by
 have all : ∀ (l : List Env), (∀ b ∈ frs l, b ∈ X.fs) → X.s₀.heap.FunFrames X.base l → s.heap.FunFrames X.base l := by
   intro l
   induction l with
   | nil => intro _ _; trivial
   | cons env r ih =>
     intro hs hl
     obtain ⟨hk, ⟨L, o, hf, hn, ho, hd⟩, hr⟩ := hl
     have hL : L ∈ X.fs := hs L (by unfold frs; rw [List.filterMap_cons, hf]; exact List.mem_cons_self)
     obtain ⟨sl, e⟩ := I.base.slot L o ho (I.ok.frf L hL) hL fun z => I.ok.exfs L z hL
     exact ⟨hk, ⟨L, _, hf, hn, e, hd⟩, ih (fun b hb => hs b (by unfold frs; rw [List.filterMap_cons, hf]; exact List.mem_cons_of_mem _ hb)) hr⟩
 exact all X.outer (fun _ hb => hb) I.ok.funs
theorem Inv.stack (I : Inv X pins σ H s) : s.heap.FunFrames X.base X.stack := by
 rcases I.ok.stk with e | ⟨e, hf⟩
 · rw [e]; exact I.funs
 · rw [e]
   obtain ⟨m, hn, _⟩ := I.loc
   refine .cons (by rw [I.ok.kind]; decide) hf hn ?_ I.funs
   exact Heap.get?_none_of_le (Nat.le_trans I.ok.bsz I.ok.above)
theorem Inv.stkSub (I : Inv X pins σ H s) : ∀ b ∈ frs X.stack, b ∈ X.env.locals :: X.fs := fun b hb => by
 rcases I.ok.stk with e | ⟨e, hf⟩
 · rw [e] at hb; exact List.mem_cons_of_mem _ hb
 · rw [e] at hb
   unfold frs at hb
   rw [List.filterMap_cons, hf] at hb
   exact hb
theorem Inv.stkFree (I : Inv X pins σ H s) : ∀ b ∈ frs X.stack, H b = none := fun b hb => by
 rcases List.mem_cons.mp (I.stkSub b hb) with e | hb
 · rw [e]; exact I.free
 · obtain ⟨_, o, ho, _⟩ := I.ok.funs.mem hb
   exact I.base.free b o ho (I.ok.frf b hb) fun z => I.ok.exfs b z hb
theorem Inv.step {g' : Array GenState} {t' : Nat} {d' : Drawn} {ch : List Addr} (I : Inv X pins σ H s)
   (hch : ∀ b ∈ ch, (b ∈ X.ex ∨ X.s₀.heap.objs.size ≤ b) ∧ b ≠ X.env.locals ∧ (∀ x c, X.env.cells.lookup x = some c → c ≠ b) ∧ ∀ p ∈ X.pn ++ pins, p.1 ≠ b)
   (keep : ∀ b o, b ≠ X.env.locals → b ∉ X.fs → b ∉ ch → s.heap.get? b = some o → H b = none → h'.get? b = some o)
   (slot : ∀ b o, b ≠ X.env.locals → b ∈ X.fs → b ∉ ch → s.heap.get? b = some o → H b = none → ∃ sl, h'.get? b = some { o with slots := sl }) (free : ∀ b o, b ∉ ch → s.heap.get? b = some o → H b = none → H' b = none)
   (there : ∀ b o, b ∉ ch → s.heap.get? b = some o → ∃ o', h'.get? b = some o')
   (tups : ∀ b xs, H b = some (.tup xs) → H' b = some (.tup xs)) (frzs : ∀ b o u, H b = some (.frz o u) → H' b = some (.frz o u)) (tbls : ∀ b ps, H b = some (.tbl ps) → ∃ more, H' b = some (.tbl (ps ++ more)))
   (ns : ∀ m, s.heap.Ns X.env.locals m → h'.Ns X.env.locals m) (hok : HOk X.prog X.w H' h') (hg : AllBare g') :
   Inv X pins σ H' { s with heap := h', gens := g', drawn := d', toks := t' } := by
 have neL : ∀ b o, X.s₀.heap.get? b = some o → b ≠ X.env.locals := fun b o e => Nat.ne_of_lt (Nat.lt_of_lt_of_le (Heap.lt_size e) I.ok.above)
 have neC : ∀ b o, X.s₀.heap.get? b = some o → b ∉ X.ex → b ∉ ch := fun b o e hx hb => by
   rcases (hch b hb).1 with z | z
   · exact hx z
   · exact absurd (Nat.lt_of_lt_of_le (Heap.lt_size e) z) (Nat.lt_irrefl _)
 have cellK : ∀ x c, X.env.cells.lookup x = some c → ∀ v, s.heap.IsCell c v → h'.IsCell c v := fun x c e v ⟨o, ho, hd⟩ => by
   have nch : c ∉ ch := fun z => (hch c z).2.2.1 x c e rfl
   by_cases hc : c ∈ X.fs
   · obtain ⟨sl, q⟩ := slot c o (I.cne x c e) hc nch ho (I.freeC x c e)
     exact ⟨_, q, hd⟩
   · exact ⟨o, keep c o (I.cne x c e) hc nch ho (I.freeC x c e), hd⟩
 refine ⟨I.ok, I.os, hg, ⟨fun b o e n hb hx => ?_, fun b o e n hb hx => ?_, fun b o e n hx => ?_, fun b o e hx => ?_, fun b xs e => tups b xs (I.base.tups b xs e), fun b o xs e => frzs b o xs (I.base.frzs b o xs e), fun b ps e => ?_⟩, ?_, fun x c e => ?_, ?_, fun x c e => ?_, fun p hp => ?_, hok, I.len⟩
 · exact keep b o (neL b o e) hb (neC b o e hx) (I.base.keep b o e n hb hx) (I.base.free b o e n hx)
 · obtain ⟨sl, e1⟩ := I.base.slot b o e n hb hx
   obtain ⟨sl', e2⟩ := slot b _ (neL b o e) hb (neC b o e hx) e1 (I.base.free b o e n hx)
   exact ⟨sl', e2⟩
 · obtain ⟨o', e1⟩ := I.base.there b o e hx
   exact free b o' (neC b o e hx) e1 (I.base.free b o e n hx)
 · obtain ⟨o', e1⟩ := I.base.there b o e hx
   exact there b o' (neC b o e hx) e1
 · obtain ⟨m1, e1⟩ := I.base.tbls b ps e
   obtain ⟨m2, e2⟩ := tbls b _ e1
   exact ⟨m1 ++ m2, by rw [e2, Array.append_assoc]⟩
 · obtain ⟨m, hn, hl⟩ := I.loc
   refine ⟨m, ns m hn, fun i x v e1 e2 e3 => ?_⟩
   obtain ⟨u, r, l⟩ := hl i x v e1 e2 e3
   refine ⟨u, r, ?_⟩
   rcases l with l | ⟨k, c, e, z⟩
   · exact .inl l
   · exact .inr ⟨k, c, e, cellK x c e _ z⟩
 · obtain ⟨v, z⟩ := I.cell x c e
   exact ⟨v, cellK x c e v z⟩
 · obtain ⟨m, ⟨o, _, _, ho, _⟩, _⟩ := I.loc
   exact free _ o (fun z => (hch _ z).2.1 rfl) ho I.free
 · obtain ⟨v, o, ho, hd⟩ := I.cell x c e
   exact free c o (fun z => (hch c z).2.2.1 x c e rfl) ho (I.freeC x c e)
 · obtain ⟨e, n, ne, nf, d⟩ := I.pin p hp
   have nch : p.1 ∉ ch := fun z => (hch p.1 z).2.2.2 p hp rfl
   exact ⟨keep p.1 p.2 ne nf nch e n, free p.1 p.2 nch e n, ne, nf, d⟩
theorem Inv.un {t' : Nat} (I : Inv X pins σ H s) (u : Un X.fs [] H H' s.heap h') (hok : HOk X.prog X.w H' h') : Inv X pins σ H' { s with heap := h', toks := t' } := by
 obtain ⟨m, ⟨o, es, ep, ho, r⟩, _⟩ := id I.loc
 obtain ⟨sl, hL⟩ := u.any ho I.free (by simp)
 exact I.step (g' := s.gens) (d' := s.drawn) (ch := []) (fun _ z => nomatch z) (fun b o _ hb _ e n => u.keep b o e n hb (by simp)) (fun b o _ hb _ e n => u.slot b o e n hb (by simp)) (fun b o _ e n => u.free b o e n (by simp)) (fun b o _ e => u.there b o e (by simp)) u.tups u.frzs u.tbls (fun m' hm => by
   obtain ⟨o', es', ep', ho', r'⟩ := hm
   rw [ho] at ho'; cases ho'
   exact ⟨_, es', ep', hL, r'⟩) hok I.bare
theorem Inv.call {g' : Array GenState} {t' : Nat} {d' : Drawn} {ch : List Addr} (I : Inv X pins σ H s) (u : Un (frs X.stack) ch H H' s.heap h') (hok : HOk X.prog X.w H' h') (hg : AllBare g')
   (hch : ∀ b ∈ ch, (b ∈ X.ex ∨ X.s₀.heap.objs.size ≤ b) ∧ b ≠ X.env.locals ∧ (∀ x c, X.env.cells.lookup x = some c → c ≠ b) ∧ ∀ p ∈ X.pn ++ pins, p.1 ≠ b) :
   Inv X pins σ H' { s with heap := h', gens := g', drawn := d', toks := t' } := by
 obtain ⟨m, ⟨o, es, ep, ho, r⟩, _⟩ := id I.loc
 obtain ⟨sl, hL⟩ := u.any ho I.free fun z => (hch _ z).2.1 rfl
 exact I.step (ch := ch) hch (fun b o hL hb hc e n => u.keep b o e n (fun z => (List.mem_cons.mp (I.stkSub b z)).elim hL hb) hc) (fun b o _ _ hc e n => u.any e n hc) (fun b o hc e n => u.free b o e n hc) (fun b o hc e => u.there b o e hc) u.tups u.frzs u.tbls (fun m' hm => by
   obtain ⟨o', es', ep', ho', r'⟩ := hm
   rw [ho] at ho'; cases ho'
   exact ⟨_, es', ep', hL, r'⟩) hok hg
theorem Inv.turned {t' : Nat} {it : Addr} (I : Inv X pins σ H s) (k : ∀ b o, b ≠ it → s.heap.get? b = some o → h'.get? b = some o) (hn : H it = none) (hL : it ≠ X.env.locals)
   (h1 : it ∈ X.ex ∨ X.s₀.heap.objs.size ≤ it) (h2 : ∀ x c, X.env.cells.lookup x = some c → c ≠ it) (h3 : ∀ p ∈ X.pn ++ pins, p.1 ≠ it) : Inv X pins σ H { s with heap := h', toks := t' } := by
 have nit : ∀ b u, H b = some u → b ≠ it := fun b u e z => by rw [z, hn] at e; cases e
 refine I.step (g' := s.gens) (d' := s.drawn) (ch := [it]) (fun b hb => ?_) (fun b o _ _ hc e _ => k b o (fun z => hc (by simp [z])) e) (fun b o _ _ hc e _ => ⟨o.slots, k b o (fun z => hc (by simp [z])) e⟩) (fun _ _ _ _ n => n)
   (fun b o hc e => ⟨o, k b o (fun z => hc (by simp [z])) e⟩) (fun _ _ e => e) (fun _ _ _ e => e) (fun b ps e => ⟨#[], by rw [e]; simp⟩) (fun m hm => ?_) (fun b u e => ?_) I.bare
 · have e : b = it := by simpa using hb
   subst e
   exact ⟨h1, hL, h2, h3⟩
 · obtain ⟨o, es, ep, ho, r⟩ := hm
   exact ⟨o, es, ep, k _ o (Ne.symm hL) ho, r⟩
 · refine (I.hok b u e).stay (fun c v hc q => k c v ?_ q) (fun _ q => q) fun _ _ q => q
   rcases hc with z | z
   · rw [z]; exact nit b u e
   · exact nit c _ z
theorem Inv.tok (I : Inv X pins σ H s) (t : Nat) : Inv X pins σ H { s with toks := t } := I.un (h' := s.heap) (t' := t) Un.refl I.hok
theorem Inv.kept {t' : Nat} (I : Inv X pins σ H s) (k : ∀ b u, s.heap.get? b = some u → h'.get? b = some u) : Inv X pins σ H { s with heap := h', toks := t' } := I.un (Un.kept k) (I.hok.kept k)
theorem Inv.laid {a : Addr} {o : HO} {t' : Nat} (I : Inv X pins σ H s) (k : ∀ b u, s.heap.get? b = some u → h'.get? b = some u) (hp : s.heap.objs.size ≤ a) (new : ObjOk X.prog X.w (upd H a o) h' a o) :
   Inv X pins σ (upd H a o) { s with heap := h', toks := t' } := I.un (Un.laid k hp (I.hok.fresh hp)) (I.hok.laid k hp new)
theorem Inv.write {x e : Addr} {o : HO} {t' : Nat} (I : Inv X pins σ H s) (mu : Mut (H x)) (he : e = x ∨ H e = some (.own x)) (k : ∀ b u, b ≠ e → s.heap.get? b = some u → h'.get? b = some u) (heo : ∃ u, h'.get? e = some u)
   (new : ObjOk X.prog X.w (upd H x o) h' x o) : Inv X pins σ (upd H x o) { s with heap := h', toks := t' } := I.un (Un.write mu he k heo) (I.hok.write mu he k heo new)
theorem Inv.pins_of {pins' : List (Addr × Obj)} (I : Inv X pins σ H s) (h : ∀ p ∈ pins', s.heap.get? p.1 = some p.2 ∧ H p.1 = none ∧ p.1 ≠ X.env.locals ∧ p.1 ∉ X.fs ∧ ∀ v, p.2.data ≠ .cell v) : Inv X pins' σ H s :=
 ⟨I.ok, I.os, I.bare, I.base, I.loc, I.cell, I.free, I.freeC, fun p hp => (List.mem_append.mp hp).elim (fun z => I.pin p (List.mem_append_left _ z)) (h p), I.hok, I.len⟩
theorem nodup_ix {N : List Str} (hN : N.Nodup) {i j : Nat} {x : Str} (a : N[i]? = some x) (b : N[j]? = some x) : i = j := by
 obtain ⟨h1, e1⟩ := List.getElem?_eq_some_iff.mp a
 obtain ⟨h2, e2⟩ := List.getElem?_eq_some_iff.mp b
 exact (List.getElem_inj hN).mp (e1.trans e2.symm)
theorem store_ok2 {M : Model} {A : Around} {E : Value → Shared → Prop} {i : Nat} {x : Str} {v : V} {u : Value} {Q : Unit → Shared → Prop} (I : Inv X pins σ H s) (hN : X.N.Nodup) (hi : X.N[i]? = some x) (hx : Loc X.env.scope x) (r : RelV v u)
   (h : ∀ s', Inv X pins (σ.set i (some v)) H s' → (∃ a, Heap.SameBut a s.heap s'.heap ∧ (a = X.env.locals ∨ X.env.cells.lookup x = some a)) → Q () s') (hf : X.fn x = true ∨ X.env.scope.names.lookup x = some .local := by first | exact .inl rfl | exact .inr rfl | assumption) : wpAny M A (storeName X.env x u) Q E s := by
 obtain ⟨m, hn, hl⟩ := id I.loc
 have hcls : (X.env.scope.kind == .class || (X.env.scope.kind == .module && X.env.locals != X.env.globals)) = false := by rw [I.ok.kind]; rfl
 have hiσ : i < σ.length := by rw [I.len]; exact (List.getElem?_eq_some_iff.mp hi).1
 have cne := I.cne
 have tracked : ∀ {a : Addr} {h' : Heap}, (∃ o, s.heap.get? a = some o ∧ H a = none) → Heap.SameBut a s.heap h' → HOk X.prog X.w H h' := fun {a h'} ha hs b ob e => by
   obtain ⟨_, _, hfree⟩ := ha
   refine (I.hok b ob e).stay (fun c w' hc q => (hs.2 c ?_).trans q) (fun _ q => q) fun _ _ q => q
   rintro rfl
   rcases hc with rfl | hc
   · rw [hfree] at e; cases e
   · rw [hfree] at hc; cases hc
 rcases hx with hk | hk
 · refine wpAny_storeName_local hk hn (fun h' hn' hs => ?_) hcls
   obtain ⟨oL, _, _, hoL, _⟩ := id hn
   refine h _ ⟨I.ok, I.os, I.bare, ⟨fun b o e n hb hx => ?_, fun b o e n hb hx => ?_, I.base.free, fun b o e hx => ?_, I.base.tups, I.base.frzs, I.base.tbls⟩, ⟨_, hn', fun j y v' e1 e2 e3 => ?_⟩, fun y c e => ?_, I.free, I.freeC, fun p hp => ?_, tracked ⟨oL, hoL, I.free⟩ hs, by simpa using I.len⟩ ⟨_, hs, .inl rfl⟩
   · exact (hs.2 b (Nat.ne_of_lt (Nat.lt_of_lt_of_le (Heap.lt_size e) I.ok.above))).trans (I.base.keep b o e n hb hx)
   · obtain ⟨sl, e1⟩ := I.base.slot b o e n hb hx
     exact ⟨sl, (hs.2 b (Nat.ne_of_lt (Nat.lt_of_lt_of_le (Heap.lt_size e) I.ok.above))).trans e1⟩
   · obtain ⟨o', e1⟩ := I.base.there b o e hx
     exact ⟨o', (hs.2 b (Nat.ne_of_lt (Nat.lt_of_lt_of_le (Heap.lt_size e) I.ok.above))).trans e1⟩
   · by_cases hj : j = i
     · subst hj
       rw [hi] at e1; cases e1
       rw [List.getElem?_set_self hiσ] at e2
       cases e2
       exact ⟨u, r, .inl ⟨hk, by simp⟩⟩
     · rw [List.getElem?_set_ne (Ne.symm hj)] at e2
       obtain ⟨u', r', q⟩ := hl j y v' e1 e2 e3
       refine ⟨u', r', ?_⟩
       rcases q with ⟨k, e⟩ | ⟨k, c, e, z⟩
       · refine .inl ⟨k, ?_⟩
         have : y ≠ x := fun e => hj (nodup_ix hN e1 (e ▸ hi))
         simp [this, e]
       · exact .inr ⟨k, c, e, z.sameBut hs (cne y c e)⟩
   · obtain ⟨w', z⟩ := I.cell y c e
     exact ⟨w', z.sameBut hs (cne y c e)⟩
   · obtain ⟨e, n, ne, nf, d⟩ := I.pin p hp
     exact ⟨(hs.2 p.1 ne).trans e, n, ne, nf, d⟩
 · have hfn : X.fn x = true := by
     rcases hf with z | z
     · exact z
     · rw [z] at hk; cases hk
   obtain ⟨c, hc⟩ := I.ok.has x (.inl hk)
   obtain ⟨w', z⟩ := I.cell x c hc
   refine wpAny_storeName_cell I.ok.kind hk hc z (fun h' hc' hs => ?_)
   obtain ⟨oc, hoc, hocd⟩ := id z
   refine h { s with heap := h' } ⟨I.ok, I.os, I.bare, ⟨fun b o e n hb hx => ?_, fun b o e n hb hx => ?_, I.base.free, fun b o e hx => ?_, I.base.tups, I.base.frzs, I.base.tbls⟩, ⟨m, hn.sameBut hs (Ne.symm (cne x c hc)), fun j y v' e1 e2 e3 => ?_⟩, fun y c' e => ?_, I.free, I.freeC, fun p hp => ?_, tracked ⟨oc, hoc, I.freeC x c hc⟩ hs, by simpa using I.len⟩ ⟨c, hs, .inr hc⟩
   · exact (hs.2 b (Nat.ne_of_lt (Nat.lt_of_lt_of_le (Heap.lt_size e) (I.ok.cab x c hfn hc)))).trans (I.base.keep b o e n hb hx)
   · obtain ⟨sl, e1⟩ := I.base.slot b o e n hb hx
     exact ⟨sl, (hs.2 b (Nat.ne_of_lt (Nat.lt_of_lt_of_le (Heap.lt_size e) (I.ok.cab x c hfn hc)))).trans e1⟩
   · obtain ⟨o', e1⟩ := I.base.there b o e hx
     exact ⟨o', (hs.2 b (Nat.ne_of_lt (Nat.lt_of_lt_of_le (Heap.lt_size e) (I.ok.cab x c hfn hc)))).trans e1⟩
   · by_cases hj : j = i
     · subst hj
       rw [hi] at e1; cases e1
       rw [List.getElem?_set_self hiσ] at e2
       cases e2
       exact ⟨u, r, .inr ⟨.inl hk, c, hc, hc'⟩⟩
     · rw [List.getElem?_set_ne (Ne.symm hj)] at e2
       obtain ⟨u', r', q⟩ := hl j y v' e1 e2 e3
       refine ⟨u', r', ?_⟩
       rcases q with q | ⟨k, c', e, z'⟩
       · exact .inl q
       · refine .inr ⟨k, c', e, z'.sameBut hs ?_⟩
         rintro rfl
         exact hj (nodup_ix hN e1 (I.ok.inj _ _ _ e hc ▸ hi))
   · by_cases hcc : c' = c
     · subst hcc; exact ⟨_, hc'⟩
     · obtain ⟨w2, z2⟩ := I.cell y c' e
       exact ⟨w2, z2.sameBut hs hcc⟩
   · obtain ⟨e, n, ne, nf, d⟩ := I.pin p hp
     refine ⟨(hs.2 p.1 ?_).trans e, n, ne, nf, d⟩
     intro q
     rw [q, hoc] at e
     have q' : oc = p.2 := Option.some.inj e
     exact d w' (by rw [← q']; exact hocd)
theorem store_ok {M : Model} {A : Around} {E : Value → Shared → Prop} {i : Nat} {x : Str} {v : V} {u : Value} {Q : Unit → Shared → Prop} (I : Inv X pins σ H s) (hN : X.N.Nodup) (hi : X.N[i]? = some x) (hx : Loc X.env.scope x) (r : RelV v u)
   (h : ∀ s', Inv X pins (σ.set i (some v)) H s' → Q () s') (hf : X.fn x = true ∨ X.env.scope.names.lookup x = some .local := by first | exact .inl rfl | exact .inr rfl | assumption) : wpAny M A (storeName X.env x u) Q E s :=
 store_ok2 I hN hi hx r (fun s' I' _ => h s' I') hf
theorem Inv.call' {s' : Shared} {ch : List Addr} (I : Inv X pins σ H s) (ho : s'.os = s.os) (u : Un (frs X.stack) ch H H' s.heap s'.heap) (hok : HOk X.prog X.w H' s'.heap) (hg : AllBare s'.gens)
   (hch : ∀ b ∈ ch, (b ∈ X.ex ∨ X.s₀.heap.objs.size ≤ b) ∧ b ≠ X.env.locals ∧ (∀ x c, X.env.cells.lookup x = some c → c ≠ b) ∧ ∀ p ∈ X.pn ++ pins, p.1 ≠ b) : Inv X pins σ H' s' := by
 obtain ⟨h', g', d', t', o'⟩ := s'
 have e : o' = s.os := ho
 subst e
 exact I.call (g' := g') (t' := t') (d' := d') u hok hg hch
end
abbrev XK := Value → Option Addr → Hp → Prop
abbrev St := List (Option V)
abbrev VK := V → Hp → Prop
abbrev TE := St → Hp → VK → Prop
abbrev TT := St → Hp → (Bool → Hp → Prop) → Prop
abbrev TA := St → Hp → (List V → Hp → Prop) → Prop
structure Ends where
 nx : St → Hp → Prop
 rt : VK
 bk : St → Hp → Prop := fun _ _ => False
 ct : St → Hp → Prop := fun _ _ => False
abbrev TS := Ends → St → Hp → Prop
def EP (X : Cx) (pins : List (Addr × Obj)) (σ : St) (Q : VK) (u : Value) (s' : Shared) : Prop := ∃ v H', Inv X pins σ H' s' ∧ RelV v u ∧ Q v H'
def TP (X : Cx) (pins : List (Addr × Obj)) (σ : St) (Q : Bool → Hp → Prop) (b : Bool) (s' : Shared) : Prop := ∃ H', Inv X pins σ H' s' ∧ Q b H'
def AP (X : Cx) (pins : List (Addr × Obj)) (σ : St) (Q : List V → Hp → Prop) (us : List Value) (s' : Shared) : Prop := ∃ vs H', Inv X pins σ H' s' ∧ Vals vs us ∧ Q vs H'
def SP (X : Cx) (pins : List (Addr × Obj)) (D : Ends) (f : Flow) (s' : Shared) : Prop :=
 match f with
 | .next => ∃ σ' H', Inv X pins σ' H' s' ∧ D.nx σ' H'
 | .brk => ∃ σ' H', Inv X pins σ' H' s' ∧ D.bk σ' H'
 | .cont => ∃ σ' H', Inv X pins σ' H' s' ∧ D.ct σ' H'
 | .ret u => ∃ v σ' H', Inv X pins σ' H' s' ∧ RelV v u ∧ D.rt v H'
def PE (X : Cx) (e : Expr) (t : TE) : Prop :=
 ∀ (pins : List (Addr × Obj)) (s : Shared) (σ : St) (H : Hp) (Q : VK), Inv X pins σ H s → t σ H Q → wpAny (model X.prog X.w) X.A (eval e X.env) (EP X pins σ Q) X.xe s
def PT (X : Cx) (e : Expr) (t : TT) : Prop :=
 ∀ (pins : List (Addr × Obj)) (s : Shared) (σ : St) (H : Hp) (Q : Bool → Hp → Prop), Inv X pins σ H s → t σ H Q → wpAny (model X.prog X.w) X.A (isTrue e X.env (eval e X.env)) (TP X pins σ Q) X.xe s
def PW (X : Cx) (e : Expr) (t : TT) : Prop :=
 ∀ (whole : Sem Value) (pins : List (Addr × Obj)) (s : Shared) (σ : St) (H : Hp) (Q : Bool → Hp → Prop), Inv X pins σ H s → t σ H Q → wpAny (model X.prog X.w) X.A (isTrue e X.env whole) (TP X pins σ Q) X.xe s
theorem PW.pt {X : Cx} {e : Expr} {t : TT} (h : PW X e t) : PT X e t := h _
def PA (X : Cx) (es : List Expr) (t : TA) : Prop :=
 ∀ (pos : Pos) (pins : List (Addr × Obj)) (s : Shared) (σ : St) (H : Hp) (Q : List V → Hp → Prop), Inv X pins σ H s → t σ H Q → wpAny (model X.prog X.w) X.A (spliced (backTo pos (starEach es X.env))) (AP X pins σ Q) X.xe s
def PS (X : Cx) (st : Stmt) (t : TS) : Prop :=
 ∀ (pins : List (Addr × Obj)) (s : Shared) (σ : St) (H : Hp) (D : Ends), Inv X pins σ H s → t D σ H → wpAny (model X.prog X.w) X.A (exec st X.env) (SP X pins D) X.xe s
def PSs (X : Cx) (st : List Stmt) (t : TS) : Prop :=
 ∀ (pins : List (Addr × Obj)) (s : Shared) (σ : St) (H : Hp) (D : Ends), Inv X pins σ H s → t D σ H → wpAny (model X.prog X.w) X.A (execs st X.env) (SP X pins D) X.xe s
theorem thn {α : Type} {t : Sem α} {Q Q' : α → Shared → Prop} {M : Model} {A : Around} {E : Value → Shared → Prop} {s : Shared} (h : wpAny M A t Q E s) (hQ : ∀ a s, Q a s → Q' a s) : wpAny M A t Q' E s := wpAny_mono h hQ fun _ _ x => x
end L2
namespace L2
open PySem PySem.Spec PyProof.Rows
section
variable {X : Cx}
def tVar (i : Nat) : TE := fun σ H Q => ∃ v, σ[i]? = some (some v) ∧ Q v H
def tC (v : V) : TE := fun _ H Q => Q v H
theorem pe_var {i : Nat} {x : Str} {pos : Pos} (hN : X.N[i]? = some x) (hv : Vis X.env.scope x) (hd : (x == ("__debug__" : Str)) = false := by decide) (hcd : (x == ("__classdict__" : Str)) = false := by decide) : PE X (.Name x pos) (tVar i) := by
 intro pins s σ H Q I h
 obtain ⟨v, e, h⟩ := h
 obtain ⟨m, hn, hl⟩ := I.loc
 obtain ⟨u, r, l⟩ := hl i x v hN e hv
 have fin : EP X pins σ Q u s := ⟨v, H, I, r, h⟩
 rcases l with ⟨hk, hm⟩ | ⟨hk, c, hc, hcell⟩
 · exact wpAny_Name (wpAny_loadName_local I.ok.kind hk hn hm fin) hd
 · rcases hk with hk | hk
   · exact wpAny_Name (wpAny_loadName_cell I.ok.kind hk hc hcell fin) hd
   · exact wpAny_Name (wpAny_loadName_free I.ok.kind hk hc hcell fin hcd) hd
theorem pe_int {i j pos} : PE X (.Constant (.int i) j pos) (tC (.int i)) := fun _ _ _ H _ I h => wpAny_Constant_int ⟨.int i, H, I.tok _, ⟨_, rfl⟩, h⟩
theorem pe_bl {b j pos} : PE X (.Constant (.bool b) j pos) (tC (.bl b)) := fun _ _ _ H _ I h => Constant_bool ⟨.bl b, H, I, rfl, h⟩
theorem pe_non {j pos} : PE X (.Constant .none j pos) (tC .non) := fun _ _ _ H _ I h => Constant_none ⟨.non, H, I, rfl, h⟩
theorem pe_str {x j pos} : PE X (.Constant (.str x) j pos) (tC (.str x)) := fun _ _ _ H _ I h => Calls.Constant_str ⟨.str x, H, I.tok _, ⟨_, rfl⟩, h⟩
def Gl (X : Cx) (x : Str) : Prop := X.env.kindOf x = some .globalImplicit
theorem ld_glob {E : Value → Shared → Prop} {pins : List (Addr × Obj)} {s : Shared} {σ : St} {H : Hp} {x : Str} {u : Value} {pos : Pos} {Q : Value → Shared → Prop} (I : Inv X pins σ H s) (hg : Gl X x) (hm : X.mg x = some u) (h : Q u s)
   (hd : (x == ("__debug__" : Str)) = false := by decide) : wpAny (model X.prog X.w) X.A (eval (.Name x pos) X.env) Q E s :=
 Calls.Name_function_global I.ok.kind hg (Calls.loadGlobal_global (by rw [I.ok.glob]; exact I.mod.glob.keeps I.bk) hm h) hd
theorem ld_blt {E : Value → Shared → Prop} {pins : List (Addr × Obj)} {s : Shared} {σ : St} {H : Hp} {x : Str} {u : Value} {pos : Pos} {Q : Value → Shared → Prop} (I : Inv X pins σ H s) (hg : Gl X x) (hm : X.mg x = none) (hv : bootBuiltins x = some u) (h : Q u s)
   (hn : x ≠ "__name__" := by decide) (hd : (x == ("__debug__" : Str)) = false := by decide) : wpAny (model X.prog X.w) X.A (eval (.Name x pos) X.env) Q E s := by
 obtain ⟨mb, h1, h2⟩ := I.mod.blt
 exact Calls.Name_function_global I.ok.kind hg (Calls.loadGlobal_builtin (by rw [I.ok.glob]; exact I.mod.glob.keeps I.bk) hm (by rw [I.ok.blt]; exact h1.keeps I.bk) ((h2 x hn).trans hv) h) hd
theorem pe_bltn {x : Str} {v : V} {u : Value} {pos : Pos} (hg : Gl X x) (hm : X.mg x = none) (hv : bootBuiltins x = some u) (r : RelV v u) (hn : x ≠ "__name__" := by decide) (hd : (x == ("__debug__" : Str)) = false := by decide) : PE X (.Name x pos) (tC v) :=
 fun _ _ _ H _ I h => ld_blt I hg hm hv ⟨v, H, I, r, h⟩ hn hd
variable {a b : Expr} {ta tb : TE} {pos : Pos}
def tB (t : TE) : TT := fun σ H Q => t σ H fun x H1 => ∃ c, x = .bl c ∧ Q c H1
theorem pt_val {e : Expr} {t : TE} (h : PE X e t) (he : ∀ whole, isTrue e X.env whole = (do let v ← whole; standAt e.pos; holding [v] (truthy v)) := by intro _; rfl) : PT X e (tB t) := by
 intro pins s σ H Q I hw
 refine isTrue_plain (thn (h pins s σ H _ I hw) fun v s1 ⟨x, H1, I1, r1, q1⟩ => ?_) (he _)
 obtain ⟨d, rfl, q⟩ := q1
 cases r1
 exact wpAny_truthy_bool ⟨H1, I1, q⟩
variable {tA tB' : TT} {rest : List Expr}
def tAnd (t u : TT) : TT := fun σ H Q => t σ H fun c H1 => if c = true then u σ H1 Q else Q false H1
def tOr (t u : TT) : TT := fun σ H Q => t σ H fun c H1 => if c = true then Q true H1 else u σ H1 Q
def tNot (t : TT) : TT := fun σ H Q => t σ H fun c H1 => Q (!c) H1
theorem pw_and1 (ha : PT X a tA) : PW X (.BoolOp .And [a] pos) tA := by
 intro wh pins s σ H Q I h
 refine isTrue_and (thn (ha pins s σ H Q I h) fun c s1 e => ?_)
 cases c with
 | true => exact isTrue_and_nil e
 | false => exact e
theorem pw_or1 (ha : PT X a tA) : PW X (.BoolOp .Or [a] pos) tA := by
 intro wh pins s σ H Q I h
 refine isTrue_or (thn (ha pins s σ H Q I h) fun c s1 e => ?_)
 cases c with
 | false => exact isTrue_or_nil e
 | true => exact e
theorem pw_and (ha : PT X a tA) (hb : PW X (.BoolOp .And (b :: rest) pos) tB') : PW X (.BoolOp .And (a :: b :: rest) pos) (tAnd tA tB') := by
 intro wh pins s σ H Q I h
 refine isTrue_and (thn (ha pins s σ H _ I h) fun c s1 ⟨H1, I1, q1⟩ => ?_)
 cases c with
 | true => exact hb wh pins s1 σ H1 Q I1 q1
 | false => exact ⟨H1, I1, q1⟩
theorem pw_or (ha : PT X a tA) (hb : PW X (.BoolOp .Or (b :: rest) pos) tB') : PW X (.BoolOp .Or (a :: b :: rest) pos) (tOr tA tB') := by
 intro wh pins s σ H Q I h
 refine isTrue_or (thn (ha pins s σ H _ I h) fun c s1 ⟨H1, I1, q1⟩ => ?_)
 cases c with
 | true => exact ⟨H1, I1, q1⟩
 | false => exact hb wh pins s1 σ H1 Q I1 q1
theorem pt_not (ha : PT X a tA) : PT X (.UnaryOp .Not a pos) (tNot tA) := by
 intro pins s σ H Q I h
 exact isTrue_not (ha pins s σ H (fun c H1 => Q (!c) H1) I h)
def tAndV (ta tb : TE) : TE := fun σ H Q => ta σ H fun x H1 => ∃ c, x = .bl c ∧ if c = true then tb σ H1 Q else Q (.bl false) H1
def tNotV (ta : TE) : TE := fun σ H Q => ta σ H fun x H1 => ∃ c, x = .bl c ∧ Q (.bl (!c)) H1
theorem pe_one {op} {t : TE} (h : PE X a t) : PE X (.BoolOp op [a] pos) t := fun pins s σ H Q I hw => BoolOp_one (h pins s σ H Q I hw)
theorem pe_and (ha : PE X a ta) (hb : PE X (.BoolOp .And (b :: rest) pos) tb) : PE X (.BoolOp .And (a :: b :: rest) pos) (tAndV ta tb) := by
 intro pins s σ H Q I h
 refine BoolOp_and (thn (ha pins s σ H _ I h) fun v s1 ⟨x, H1, I1, r1, q1⟩ => ?_)
 obtain ⟨c, rfl, q1⟩ := q1
 cases r1
 refine wpAny_truthy_bool ?_
 cases c with
 | true => exact hb pins s1 σ H1 Q I1 q1
 | false => exact ⟨.bl false, H1, I1, rfl, q1⟩
theorem pe_not (ha : PE X a ta) : PE X (.UnaryOp .Not a pos) (tNotV ta) := by
 intro pins s σ H Q I h
 refine UnaryOp_ (thn (ha pins s σ H _ I h) fun v s1 ⟨x, H1, I1, r1, q1⟩ => ?_)
 obtain ⟨c, rfl, q1⟩ := q1
 cases r1
 exact not_of (wpAny_truthy_bool ⟨.bl (!c), H1, I1, rfl, q1⟩)
end
end L2
namespace L2
open PySem PySem.Spec PyProof.Rows
def SqL (K : PySem.W.Frag) (H : Hp) (a : Addr) (xs : List V) : Prop :=
 Rd H a (.lst xs) ∨
   ∃ (o : Obj) (its : Array Value) (n : Nat), K.lookup a = some o ∧ o.cls = .type "list" ∧ o.dict = none ∧ o.data = .seq its n ∧ its.size ≤ sizeLine ∧ Vals xs its.toList
def SqT (K : PySem.W.Frag) (H : Hp) (a : Addr) (xs : List V) : Prop :=
 Rd H a (.tup xs) ∨
   ∃ (o : Obj) (its : Array Value) (n : Nat), K.lookup a = some o ∧ o.cls = .type "tuple" ∧ o.data = .seq its n ∧ its.size ≤ sizeLine ∧ Vals xs its.toList
def absV : Value → Option V
 | .none => some .non
 | .bool b => some (.bl b)
 | .int i _ => some (.int i)
 | .str x _ => some (.str x)
 | .bytes b _ => some (.byt b)
 | .float b _ => some (.flt b)
 | .ref a => some (.ref a)
 | .type n => some (.ty n)
 | _ => none
theorem RelV.abs {x : V} {u : Value} (r : RelV x u) : absV u = some x := by
 cases x with
 | non => cases r; rfl
 | bl _ => cases r; rfl
 | int _ => obtain ⟨t, rfl⟩ := r; rfl
 | str _ => obtain ⟨t, rfl⟩ := r; rfl
 | byt _ => obtain ⟨t, rfl⟩ := r; rfl
 | flt _ => obtain ⟨t, rfl⟩ := r; rfl
 | ref _ => cases r; rfl
 | ty _ => cases r; rfl
theorem RelV.inj {x y : V} {u : Value} (r : RelV x u) (q : RelV y u) : x = y := Option.some.inj (r.abs.symm.trans q.abs)
theorem Vals.inj : ∀ {xs ys : List V} {us : List Value}, Vals xs us → Vals ys us → xs = ys
 | _, _, _, .nil, .nil => rfl
 | _, _, _, .cons r t, .cons r' t' => by rw [r.inj r', Vals.inj t t']
section
variable {X : Cx} {pins : List (Addr × Obj)} {σ : St} {H : Hp} {s : Shared} {a : Addr} {xs ys : List V}
theorem SqL.of {K : PySem.W.Frag} (h : H a = some (.lst xs)) : SqL K H a xs := .inl (.inl h)
theorem SqT.of {K : PySem.W.Frag} (h : H a = some (.tup xs)) : SqT K H a xs := .inl (.inl h)
theorem Inv.list (I : Inv X pins σ H s) (h : SqL X.K H a xs) : ∃ its : List Value, Vals xs its ∧ PlainL s.heap a its.toArray ∧ xs.length ≤ sizeLine := by
 rcases h with h | ⟨o, its, n, hk, hc, hd, hs, hz, r⟩
 · obtain ⟨z, its, n, r, e⟩ := h.ok I.hok
   exact ⟨its, r, ⟨_, n, e, rfl, rfl, rfl⟩, z⟩
 · refine ⟨its.toList, r, ⟨o, n, I.kIn a o hk, hc, hd, by simpa using hs⟩, ?_⟩
   have e := r.length
   simp only [Array.length_toList] at e
   omega
theorem Inv.tuple (I : Inv X pins σ H s) (h : SqT X.K H a xs) : ∃ its : List Value, Vals xs its ∧ IsTup s.heap a its.toArray ∧ xs.length ≤ sizeLine := by
 rcases h with h | ⟨o, its, n, hk, hc, hs, hz, r⟩
 · obtain ⟨z, its, r, p⟩ := h.ok I.hok
   exact ⟨its, r, p, z⟩
 · refine ⟨its.toList, r, ⟨o, I.kIn a o hk, hc, n, by simpa using hs⟩, ?_⟩
   have e := r.length
   simp only [Array.length_toList] at e
   omega
theorem Inv.list_inj (I : Inv X pins σ H s) (h : SqL X.K H a xs) (h' : SqL X.K H a ys) : xs = ys := by
 obtain ⟨its, r, ⟨o, n, e, _, _, d⟩, _⟩ := I.list h
 obtain ⟨its', r', ⟨o', n', e', _, _, d'⟩, _⟩ := I.list h'
 rw [e] at e'; cases e'
 rw [d] at d'
 injection d' with d1 _
 have : its = its' := by simpa using congrArg Array.toList d1
 subst this
 exact r.inj r'
theorem Inv.tuple_inj (I : Inv X pins σ H s) (h : SqT X.K H a xs) (h' : SqT X.K H a ys) : xs = ys := by
 obtain ⟨its, r, ⟨o, e, _, n, d⟩, _⟩ := I.tuple h
 obtain ⟨its', r', ⟨o', e', _, n', d'⟩, _⟩ := I.tuple h'
 rw [e] at e'; cases e'
 rw [d] at d'
 injection d' with d1 _
 have : its = its' := by simpa using congrArg Array.toList d1
 subst this
 exact r.inj r'
end
abbrev Cx.wish (X : Cx) (E : Value → Shared → Prop) : Cx := { X with xe := E }
abbrev Cx.nox (X : Cx) : Cx := X.wish fun _ _ => False
theorem Cx.Ok.wish {X : Cx} (ok : X.Ok) (E : Value → Shared → Prop) : (X.wish E).Ok :=
 ⟨ok.mod, ok.kind, ok.glob, ok.blt, ok.above, ok.inj, ok.has, ok.cab, ok.hd, ok.frames, ok.stk, ok.exf, ok.bs, ok.bsz, ok.noex, ok.exfs, ok.funs, ok.frf⟩
theorem Cx.Ok.unwish {X : Cx} {E : Value → Shared → Prop} (ok : (X.wish E).Ok) : X.Ok :=
 ⟨ok.mod, ok.kind, ok.glob, ok.blt, ok.above, ok.inj, ok.has, ok.cab, ok.hd, ok.frames, ok.stk, ok.exf, ok.bs, ok.bsz, ok.noex, ok.exfs, ok.funs, ok.frf⟩
section
variable {X : Cx} {pins : List (Addr × Obj)} {σ : St} {H : Hp} {s : Shared} {E : Value → Shared → Prop}
theorem Inv.wish (I : Inv X pins σ H s) (E : Value → Shared → Prop) : Inv (X.wish E) pins σ H s := ⟨I.ok.wish E, I.os, I.bare, I.base, I.loc, I.cell, I.free, I.freeC, I.pin, I.hok, I.len⟩
theorem Inv.unwish (I : Inv (X.wish E) pins σ H s) : Inv X pins σ H s := ⟨I.ok.unwish, I.os, I.bare, I.base, I.loc, I.cell, I.free, I.freeC, I.pin, I.hok, I.len⟩
theorem SP.unwish {D : Ends} {f : Flow} {s' : Shared} (h : SP (X.wish E) pins D f s') : SP X pins D f s' := by
 cases f with
 | next => obtain ⟨σ', H', I, q⟩ := h; exact ⟨σ', H', I.unwish, q⟩
 | brk => obtain ⟨σ', H', I, q⟩ := h; exact ⟨σ', H', I.unwish, q⟩
 | cont => obtain ⟨σ', H', I, q⟩ := h; exact ⟨σ', H', I.unwish, q⟩
 | ret u => obtain ⟨v, σ', H', I, r, q⟩ := h; exact ⟨v, σ', H', I.unwish, r, q⟩
theorem PE.nox {e : Expr} {t : TE} (h : PE X.nox e t) : PE X e t := fun pins s σ H Q I hw =>
 wpAny_mono (h pins s σ H Q (I.wish _) hw) (fun _ _ ⟨v, H', I', r, q⟩ => ⟨v, H', I'.unwish, r, q⟩) fun _ _ z => False.elim z
theorem PT.nox {e : Expr} {t : TT} (h : PT X.nox e t) : PT X e t := fun pins s σ H Q I hw =>
 wpAny_mono (h pins s σ H Q (I.wish _) hw) (fun _ _ ⟨H', I', q⟩ => ⟨H', I'.unwish, q⟩) fun _ _ z => False.elim z
theorem PSs.nox {st : List Stmt} {t : TS} (h : PSs X.nox st t) : PSs X st t := fun pins s σ H D I hw =>
 wpAny_mono (h pins s σ H D (I.wish _) hw) (fun _ _ q => q.unwish) fun _ _ z => False.elim z
end
section
variable {X : Cx} {st : Stmt} {rest : List Stmt} {t u : TS} {e : Expr} {te : TE} {pos : Pos}
def tNext : TS := fun D σ H => D.nx σ H
def tSeq (t u : TS) : TS := fun D σ H => t { D with nx := u D } σ H
theorem pss_nil : PSs X [] tNext := fun _ _ σ H _ I h => wpAny_execs_nil ⟨σ, H, I, h⟩
theorem pss_cons (h1 : PS X st t) (h2 : PSs X rest u) : PSs X (st :: rest) (tSeq t u) := by
 intro pins s σ H D I h
 refine wpAny_execs_cons (thn (h1 pins s σ H { D with nx := u D } I h) fun f s1 q => ?_)
 cases f with
 | next =>
   obtain ⟨σ', H', I', q⟩ := q
   exact h2 pins s1 σ' H' D I' q
 | ret v => exact q
 | brk => exact q
 | cont => exact q
theorem pss_one (h1 : PS X st t) : PSs X [st] t := by
 intro pins s σ H D I h
 refine wpAny_execs_cons (thn (h1 pins s σ H D I h) fun f s1 q => ?_)
 cases f with
 | next => exact wpAny_execs_nil q
 | ret v => exact q
 | brk => exact q
 | cont => exact q
theorem Inv.quiet {pins : List (Addr × Obj)} {σ : St} {H : Hp} {s : Shared} (I : Inv X pins σ H s) : interactive X.env = false := by simp [interactive, I.ok.kind]
def tDrop (te : TE) : TS := fun D σ H => te σ H fun _ H1 => D.nx σ H1
theorem ps_expr (he : PE X e te) (hs : swapsWith e none pos.line X.env = pure false := by rfl) : PS X (.Expr e pos) (tDrop te) := by
 intro pins s σ H D I h
 exact wpAny_Expr_any (thn (he pins s σ H _ I h) fun v s1 ⟨x, H1, I1, r1, q1⟩ => ⟨σ, H1, I1, q1⟩) I.quiet hs
def tRet (te : TE) : TS := fun D σ H => te σ H D.rt
theorem ps_ret (he : PE X e te) : PS X (.Return (some e) pos) (tRet te) := by
 intro pins s σ H D I h
 exact wpAny_Return_some (thn (he pins s σ H _ I h) fun v s1 ⟨x, H1, I1, r1, q1⟩ => ⟨x, σ, H1, I1, r1, q1⟩)
def tIfS (c : TT) (t u : TS) : TS := fun D σ H => c σ H fun b H1 => if b = true then t D σ H1 else u D σ H1
theorem ps_if {c : Expr} {a b : List Stmt} {tc : TT} (hc : PT X c tc) (ha : PSs X a t) (hb : PSs X b u) : PS X (.If c a b pos) (tIfS tc t u) := by
 intro pins s σ H D I h
 refine wpAny_If (thn (hc pins s σ H _ I h) fun d s1 ⟨H1, I1, q1⟩ => ?_)
 cases d with
 | true => exact ha pins s1 σ H1 D I1 q1
 | false => exact hb pins s1 σ H1 D I1 q1
def tNever : TS := fun _ _ _ => False
theorem ps_never : PS X st tNever := fun _ _ _ _ _ _ h => h.elim
end
abbrev TG := V → St → Hp → (St → Hp → Prop) → Prop
abbrev TGs := List V → St → Hp → (St → Hp → Prop) → Prop
def PG (X : Cx) (target : Expr) (t : TG) : Prop :=
 ∀ (pins : List (Addr × Obj)) (s : Shared) (σ : St) (H : Hp) (v : V) (u : Value) (Q : St → Hp → Prop), Inv X pins σ H s → RelV v u → t v σ H Q →
   wpAny (model X.prog X.w) X.A (assign target X.env u) (fun _ s' => ∃ σ' H', Inv X pins σ' H' s' ∧ Q σ' H') X.xe s
def PGs (X : Cx) (ts : List Expr) (t : TGs) : Prop :=
 ∀ (pins : List (Addr × Obj)) (s : Shared) (σ : St) (H : Hp) (vs : List V) (us : List Value) (Q : St → Hp → Prop), Inv X pins σ H s → Vals vs us → t vs σ H Q →
   wpAny (model X.prog X.w) X.A (assignInOrder ((assignEach ts X.env).map (·.2)) us) (fun _ s' => ∃ σ' H', Inv X pins σ' H' s' ∧ Q σ' H') X.xe s
section
variable {X : Cx} {pos : Pos}
def gName (i : Nat) : TG := fun v σ H Q => Q (σ.set i (some v)) H
theorem pg_name {i : Nat} {x : Str} (hN : X.N.Nodup) (hi : X.N[i]? = some x) (hx : Loc X.env.scope x) (hf : X.fn x = true ∨ X.env.scope.names.lookup x = some .local := by first | exact .inl rfl | exact .inr rfl | assumption) : PG X (.Name x pos) (gName i) := by
 intro pins s σ H v u Q I r h
 exact wpAny_assign_Name (store_ok I hN hi hx r (fun s' I' => ⟨_, H, I', h⟩) hf)
def gNil : TGs := fun vs σ H Q => vs = [] ∧ Q σ H
def gCons (t : TG) (u : TGs) : TGs := fun vs σ H Q => ∃ v r, vs = v :: r ∧ t v σ H fun σ' H' => u r σ' H' Q
theorem pgs_nil : PGs X [] gNil := by
 intro pins s σ H vs us Q I r h
 obtain ⟨e, h⟩ := h
 subst e
 cases r
 exact assignInOrder_nil ⟨σ, H, I, h⟩
theorem pgs_cons {e : Expr} {es : List Expr} {t : TG} {u : TGs} (h1 : PG X e t) (h2 : PGs X es u)
   (hs : (assignEach (e :: es) X.env).map (·.2) = assign e X.env :: (assignEach es X.env).map (·.2) := by rfl) : PGs X (e :: es) (gCons t u) := by
 intro pins s σ H vs us Q I r h
 obtain ⟨v, vr, e1, h⟩ := h
 subst e1
 cases r with
 | cons r rr =>
   rw [hs]
   refine assignInOrder_cons (thn (h1 pins s σ H _ _ _ I r h) fun _ s1 ⟨σ1, H1, I1, q1⟩ => ?_)
   exact h2 pins s1 σ1 H1 _ _ Q I1 rr q1
def gTup (K : PySem.W.Frag) (n : Nat) (t : TGs) : TG := fun v σ H Q => ∃ a xs, v = .ref a ∧ SqT K H a xs ∧ xs.length = n ∧ t xs σ H Q
theorem pg_tup {es : List Expr} {k : Nat} {t : TGs} {n : Nat} (hc : X.calm = true) (h : PGs X es t)
   (hn : (assignEach es X.env).length = n := by rfl) (hst : (assignEach es X.env).findIdx? (·.1) = none := by rfl) : PG X (.Tuple es k pos) (gTup X.K n t) := by
 intro pins s σ H v u Q I r hw
 obtain ⟨a, xs, e1, hq, hl, hw⟩ := hw
 subst e1
 cases r
 obtain ⟨its, rv, ht, hz⟩ := I.tuple hq
 refine assign_Tuple_tuple (I.ok.hd hc) ht (by simp [hn, ← hl, rv.length]) hst fun h' hx => ?_
 have I1 : Inv X pins σ H { s with heap := h' } := I.kept (t' := s.toks) fun b o e => hx b o (Nat.ne_of_lt (Heap.lt_size e)) e
 exact h pins _ σ H xs _ Q I1 (by simpa using rv) hw
def tAsg (te : TE) (g : TG) : TS := fun D σ H => te σ H fun x H1 => g x σ H1 D.nx
theorem ps_asg {tg e : Expr} {te : TE} {g : TG} (he : PE X e te) (hg : PG X tg g) (hs : swapsWithSole [tg] e pos.line X.env = pure false := by rfl) (hw : swappedStores [tg] e X.env = pure none := by rfl)
   (h1 : (assignEach [tg] X.env).map (·.2) = [assign tg X.env] := by rfl) : PS X (.Assign [tg] e pos) (tAsg te g) := by
 intro pins s σ H D I h
 refine wpAny_Assign_stores (thn (he pins s σ H _ I h) fun v s1 ⟨x, H1, I1, r1, q1⟩ => ?_) hs hw
 rw [h1]
 exact thn (hg pins s1 σ H1 x v _ I1 r1 q1) fun _ s2 q => q
theorem ps_set {i : Nat} {x : Str} {e : Expr} {te : TE} {pos' : Pos} (hN : X.N.Nodup) (hi : X.N[i]? = some x) (hx : Loc X.env.scope x) (he : PE X e te) (hs : swapsWith e (some (.Name x pos')) pos.line X.env = pure false := by rfl) (hf : X.fn x = true ∨ X.env.scope.names.lookup x = some .local := by first | exact .inl rfl | exact .inr rfl | assumption) :
   PS X (.Assign [.Name x pos'] e pos) (tAsg te (gName i)) := by
 intro pins s σ H D I h
 refine wpAny_Assign_Name (thn (he pins s σ H _ I h) fun v s1 ⟨y, H1, I1, r1, q1⟩ => ?_) hs
 exact store_ok I1 hN hi hx r1 (fun s2 I2 => ⟨_, H1, I2, q1⟩) hf
end
section
variable {X : Cx} {pos : Pos}
end
structure It where
 go : Nat → Hp → Prop
 yld : Nat → Hp → V → Hp → Prop
 stop : Nat → Hp → Prop
def FpOk (X : Cx) (pins : List (Addr × Obj)) (H : Hp) (b : Addr) : Prop :=
 H b = none ∧ b ≠ X.env.locals ∧ b ∉ X.fs ∧ (b ∈ X.ex ∨ X.s₀.heap.objs.size ≤ b) ∧ (∀ x c, X.env.cells.lookup x = some c → c ≠ b) ∧ ∀ p ∈ X.pn ++ pins, p.1 ≠ b
theorem Inv.fpOk {X : Cx} {pins : List (Addr × Obj)} {σ : St} {H H' : Hp} {s : Shared} {b : Addr} (I : Inv X pins σ H s) (hb : s.heap.objs.size ≤ b) (hn : H' b = none) : FpOk X pins H' b := by
 refine ⟨hn, Nat.ne_of_gt (Nat.lt_of_lt_of_le I.lt hb), I.nofs hb, .inr (Nat.le_trans I.sz hb), fun x c e z => ?_, fun p hp z => ?_⟩
 · obtain ⟨v, q⟩ := I.cell x c e
   exact absurd (Nat.lt_of_lt_of_le q.lt (by rw [z]; exact hb)) (Nat.lt_irrefl _)
 · exact absurd (Nat.lt_of_lt_of_le (Heap.lt_size (I.pin p hp).1) (by rw [z]; exact hb)) (Nat.lt_irrefl _)
structure Turn (P : Program) (w : World) (K : PySem.W.Frag) (tg : Expr) (J : It) (fp : List Addr) (it : Addr) (tn : Nat → Heap → Prop) : Prop where
 mem : it ∈ fp
 obj : ∀ i h, tn i h → ∀ b ∈ fp, ∃ o, h.get? b = some o ∧ ∀ v, o.data ≠ .cell v
 keep : ∀ i h h', tn i h → (∀ b ∈ fp, ∀ o, h.get? b = some o → h'.get? b = some o) → tn i h'
 item : ∀ (X : Cx), X.prog = P → X.w = w → X.K = K → X.calm = true → ∀ (i : Nat) (pins : List (Addr × Obj)) (s : Shared) (σ : St) (H : Hp) (E : Value → Shared → Prop), Inv X pins σ H s → (∀ b ∈ fp, FpOk X pins H b) → tn i s.heap → J.go i H →
   wpAny (model P w) X.A (pyNext (.ref it)) (fun r s1 => ∃ u, r = some u ∧
     wpAny (model P w) X.A (letOwnedTupleGo tg (.ref it) u) (fun _ s2 => ∃ x H', Inv X pins σ H' s2 ∧ RelV x u ∧ J.yld i H x H' ∧ tn (i + 1) s2.heap ∧ ∀ b ∈ fp, H' b = none) E s1) E s
 done : ∀ (X : Cx), X.prog = P → X.w = w → X.K = K → X.calm = true → ∀ (i : Nat) (pins : List (Addr × Obj)) (s : Shared) (σ : St) (H : Hp) (E : Value → Shared → Prop), Inv X pins σ H s → (∀ b ∈ fp, FpOk X pins H b) → tn i s.heap → J.stop i H →
   wpAny (model P w) X.A (pyNext (.ref it)) (fun r s1 => r = none ∧ Inv X pins σ H s1) E s
 self : ∀ (A : Around) (i : Nat) (s : Shared) (Q : Value → Shared → Prop) (E : Value → Shared → Prop), tn i s.heap → Q (.ref it) s → wpAny (model P w) A (pyIter (.ref it)) Q E s
abbrev TI := St → Hp → (It → Hp → Prop) → Prop
def PIE (X : Cx) (pins : List (Addr × Obj)) (σ : St) (tg : Expr) (R : It → Hp → Prop) (itv : Value) (s2 : Shared) : Prop :=
 ∃ (it : Addr) (fp : List Addr) (tn : Nat → Heap → Prop) (J : It) (H' : Hp), itv = .ref it ∧ Inv X pins σ H' s2 ∧ Turn X.prog X.w X.K tg J fp it tn ∧ tn 0 s2.heap ∧ (∀ b ∈ fp, FpOk X pins H' b) ∧ R J H'
def PI (X : Cx) (tg iter : Expr) (wi : TI) : Prop :=
 ∀ (pins : List (Addr × Obj)) (s : Shared) (σ : St) (H : Hp) (R : It → Hp → Prop), Inv X pins σ H s → wi σ H R →
   wpAny (model X.prog X.w) X.A (eval iter X.env) (fun v s1 => wpAny (model X.prog X.w) X.A (pyIter v) (PIE X pins σ tg R) X.xe s1) X.xe s
theorem go_of {M : Model} {A : Around} {E : Value → Shared → Prop} {s : Shared} {tg : Expr} {it : Addr} {u : Value} {o : Obj} {n : String} {vs : Array Value} {Q : Unit → Shared → Prop} (ho : s.heap.get? it = some o) (hc : o.cls = .type n) (hd : o.data = .fields vs)
   (hn : ["enumerate", "zip", "dict_itemiterator", "dict_reverseitemiterator", "odict_iterator", "itertools.zip_longest", "itertools.pairwise"].contains n = false) (hQ : Q () s) : wpAny M A (letOwnedTupleGo tg (.ref it) u) Q E s := by
 unfold letOwnedTupleGo
 cases tg <;> first
   | exact wpAny_pure hQ
   | (cases u <;> first
       | exact wpAny_pure hQ
       | (refine wpAny_bind (wpAny_load ho ?_)
          rw [hc, hd]
          show wpAny M A (if (["enumerate", "zip", "dict_itemiterator", "dict_reverseitemiterator", "odict_iterator", "itertools.zip_longest", "itertools.pairwise"].contains n && vs[0]? == some (rawInt _)) = true then _ else _) Q E s
          rw [if_neg (by intro h; rw [hn, Bool.false_and] at h; cases h)]
          exact wpAny_pure hQ))
def Itl (K : PySem.W.Frag) (a : Addr) : It :=
 ⟨fun i H => ∃ xs x, SqL K H a xs ∧ xs[i]? = some x, fun i H x H' => H' = H ∧ ∀ xs, SqL K H a xs → xs[i]? = some x, fun i H => ∃ xs, SqL K H a xs ∧ xs.length ≤ i⟩
def Itr (lo : Int) (n : Nat) : It := ⟨fun i _ => i < n, fun i H x H' => H' = H ∧ x = .int (lo + i), fun i _ => n ≤ i⟩
theorem turn_list {P : Program} {w : World} {K : PySem.W.Frag} {tg : Expr} (a it : Addr) : Turn P w K tg (Itl K a) [it] it (fun i h => h.IsListIter it a i) where
 mem := by simp
 obj := fun i h st b hb => by
   have e : b = it := by simpa using hb
   subst e
   obtain ⟨o, e, c, d⟩ := st
   exact ⟨o, e, fun v z => by rw [d] at z; cases z⟩
 keep := fun i h h' st k => st.at fun o e => k it (by simp) o e
 item := by
   intro X hP hw hK hc i pins s σ H E I hf st hg
   subst hP hw hK
   obtain ⟨xs, x, hq, hx⟩ := hg
   obtain ⟨its, rv, p, hz⟩ := I.list hq
   obtain ⟨u, hu, ru⟩ := rv.get hx
   obtain ⟨f0, f1, f2, f3, f4, f5⟩ := hf it (by simp)
   refine wpAny_pyNext_list_item st p.isList (x := u) (by simpa using hu) fun h' st' sb => ?_
   have I1 : Inv X pins σ H { s with heap := h' } := I.turned (t' := s.toks) (fun b o hb e => (sb.2 b hb).trans e) f0 f1 f3 f4 f5
   obtain ⟨o, e, c, d⟩ := id st'
   exact ⟨u, rfl, go_of (s := { s with heap := h' }) e c d (by decide) ⟨x, H, I1, ru, ⟨rfl, fun ys hy => by rw [I.list_inj hy hq]; exact hx⟩, st', fun b hb => (hf b hb).1⟩⟩
 done := by
   intro X hP hw hK hc i pins s σ H E I hf st hg
   subst hP hw hK
   obtain ⟨xs, hq, hx⟩ := hg
   obtain ⟨its, rv, p, hz⟩ := I.list hq
   obtain ⟨f0, f1, f2, f3, f4, f5⟩ := hf it (by simp)
   have hl := rv.length
   exact wpAny_pyNext_list_end (I.ok.hd hc) st p.isList (by simp; omega) fun h' eb => ⟨rfl, I.turned (t' := s.toks) (fun b o hb e => eb b o hb e) f0 f1 f3 f4 f5⟩
 self := fun _ _ _ _ _ st h => wpAny_pyIter_listiter st h
theorem turn_range {P : Program} {w : World} {K : PySem.W.Frag} {tg : Expr} (it : Addr) (lo : Int) (n : Nat) : Turn P w K tg (Itr lo n) [it] it (fun i h => IsRangeIter h it (lo + (i : Nat) * 1) ((n : Int) - (i : Nat)) 1) where
 mem := by simp
 obj := fun i h st b hb => by
   have e : b = it := by simpa using hb
   subst e
   exact ⟨_, st, fun v z => by
     have z' : Data.fields _ = Data.cell v := z
     cases z'⟩
 keep := fun i h h' st k => k it (by simp) _ st
 item := by
   intro X hP hw hK hc i pins s σ H E I hf st hg
   subst hP hw hK
   obtain ⟨f0, f1, f2, f3, f4, f5⟩ := hf it (by simp)
   have W := Walks.range (prog := X.prog) (w := X.w) (I.ok.hd hc) it lo 1 n
   refine W.item i s _ _ hg st fun v h' tk hv st' kk => ?_
   obtain ⟨t, rfl⟩ := hv
   have I1 : Inv X pins σ H { s with heap := h', toks := tk } := I.turned (fun b o hb e => kk b o (by simpa using hb) e) f0 f1 f3 f4 f5
   refine ⟨_, rfl, go_of (s := { s with heap := h', toks := tk }) (n := "range_iterator") st' rfl rfl (by decide) ⟨.int (lo + i), H, I1, ⟨t, ?_⟩, ⟨rfl, rfl⟩, st', fun b hb => (hf b hb).1⟩⟩
   rw [Int.mul_one]
 done := by
   intro X hP hw hK hc i pins s σ H E I hf st hg
   subst hP hw hK
   obtain ⟨f0, f1, f2, f3, f4, f5⟩ := hf it (by simp)
   exact wpAny_pyNext_range_end (I.ok.hd hc) st (by have : n ≤ i := hg; omega) fun h' eb => ⟨rfl, I.turned (t' := s.toks) (fun b o hb e => eb b o hb e) f0 f1 f3 f4 f5⟩
 self := fun _ _ _ _ _ st h => wpAny_pyIter_rangeiter st h
end L2
namespace L2
open PySem PySem.Spec PyProof.Rows
section
variable {X : Cx} {tg : Expr}
def iList (K : PySem.W.Frag) (tl : TE) : TI := fun σ H R => tl σ H fun x H1 => ∃ a, x = .ref a ∧ (∃ xs, SqL K H1 a xs) ∧ R (Itl K a) H1
theorem pi_list {l : Expr} {tl : TE} (hl : PE X l tl) : PI X tg l (iList X.K tl) := by
 intro pins s σ H R I h
 refine thn (hl pins s σ H _ I h) fun v s1 ⟨x, H1, I1, r1, q1⟩ => ?_
 obtain ⟨a, e, ⟨xs, hq⟩, q⟩ := q1
 subst e
 cases r1
 obtain ⟨its, rv, p, hz⟩ := I1.list hq
 refine wpAny_pyIter_list p.isList ?_
 refine ⟨s1.heap.objs.size, [s1.heap.objs.size], _, _, H1, rfl, I1.kept (t' := s1.toks) fun b o e => Heap.get?_push_of_some _ e, turn_list a _, ⟨_, Heap.get?_push_size _ rfl, rfl, rfl⟩, fun b hb => ?_, q⟩
 have e : b = s1.heap.objs.size := by simpa using hb
 subst e
 exact I1.fpOk (Nat.le_refl _) (I1.hok.fresh (Nat.le_refl _))
theorem range_it {pins : List (Addr × Obj)} {σ : St} {H : Hp} {s : Shared} {R : It → Hp → Prop} {E : Value → Shared → Prop} {lo hi : Int} {t u v : Tok} {tk : Nat} (I : Inv X pins σ H s) (h1 : -(2 ^ 62) ≤ lo) (h2 : lo < 2 ^ 62) (h3 : -(2 ^ 62) ≤ hi) (h4 : hi < 2 ^ 62)
   (q : R (Itr lo (hi - lo).toNat) H) : wpAny (model X.prog X.w) X.A (pyIter (.ref s.heap.objs.size)) (PIE X pins σ tg R) E { s with heap := s.heap.push { cls := .type "range", data := .fields #[.int lo t, .int hi u, .int 1 v] }, toks := tk } := by
 refine wpAny_pyIter_range (IsRange.new ..) (small_one h1 h2 h3 h4) ?_
 have I1 : Inv X pins σ H { s with heap := s.heap.push { cls := .type "range", data := .fields #[.int lo t, .int hi u, .int 1 v] }, toks := tk } := I.kept fun b o e => Heap.get?_push_of_some _ e
 refine ⟨(s.heap.push { cls := .type "range", data := .fields #[.int lo t, .int hi u, .int 1 v] }).objs.size, [(s.heap.push { cls := .type "range", data := .fields #[.int lo t, .int hi u, .int 1 v] }).objs.size], _, _, H, rfl,
   I1.kept (t' := tk) fun b o e => Heap.get?_push_of_some _ e, turn_range _ lo (hi - lo).toNat, ?_, fun b hb => ?_, q⟩
 · have e1 : lo + ((0 : Nat) : Int) * 1 = lo := by simp
   have e2 : (((hi - lo).toNat : Nat) : Int) - ((0 : Nat) : Int) = Builtin.Range.rangeSize lo hi 1 := by rw [rangeSize_one]; split <;> omega
   show IsRangeIter _ _ (lo + ((0 : Nat) : Int) * 1) ((((hi - lo).toNat : Nat) : Int) - ((0 : Nat) : Int)) 1
   rw [e1, e2]
   exact Heap.get?_push_size _ rfl
 · have e : b = (s.heap.push { cls := .type "range", data := .fields #[.int lo t, .int hi u, .int 1 v] }).objs.size := by simpa using hb
   subst e
   exact I1.fpOk (Nat.le_refl _) (I1.hok.fresh (Nat.le_refl _))
def iRng1 (ta : TA) : TI := fun σ H R => ta σ H fun vs H1 => ∃ j : Int, vs = [.int j] ∧ -(2 ^ 62) ≤ j ∧ j < 2 ^ 62 ∧ R (Itr 0 j.toNat) H1
theorem pi_range1 {a : Expr} {ta : TA} {p pos : Pos} (hg : Gl X "range") (hm : X.mg "range" = none) (ha : PA X [a] ta) (hs : starEach [a] X.env = [(false, eval a X.env)] := by rfl) : PI X tg (.Call (.Name "range" p) [a] [] pos) (iRng1 ta) := by
 intro pins s σ H R I h
 refine Call_ (ld_blt I hg hm boot_range (PyProof.Rows.callWith_type1 (thn (ha pos pins s σ H _ I h) fun us s1 ⟨vs, H1, I1, r1, q1⟩ => ?_) hs rfl))
 obtain ⟨j, e, q1, q2, q⟩ := q1
 subst e
 cases r1 with
 | cons r rr =>
   cases rr
   obtain ⟨t, rfl⟩ := r
   exact call_range_1 (range_it I1 (by omega) (by omega) q1 q2 (by simpa using q))
def tFor (wi : TI) (g : TG) (tb : TS) : TS := fun D σ H => wi σ H fun J H1 => ∃ W : Nat → Nat → St → Hp → Prop, (∃ m, W 0 m σ H1) ∧ ∀ i m σ H, W i m σ H →
 (J.stop i H ∧ D.nx σ H) ∨ (J.go i H ∧ ∃ N : St → Hp → Prop, (∀ σ' H', N σ' H' → ∃ m', m' < m ∧ W (i + 1) m' σ' H') ∧ ∀ x H', J.yld i H x H' → g x σ H' fun σ2 H2 => tb { D with nx := N, ct := N, bk := D.nx } σ2 H2)
def pinsAt (fp : List Addr) (h : Heap) : List (Addr × Obj) := fp.filterMap fun b => (h.get? b).map fun o => (b, o)
theorem mem_pinsAt {fp : List Addr} {h : Heap} {b : Addr} {o : Obj} (hb : b ∈ fp) (e : h.get? b = some o) : (b, o) ∈ pinsAt fp h := List.mem_filterMap.mpr ⟨b, hb, by rw [e]; rfl⟩
theorem of_pinsAt {fp : List Addr} {h : Heap} {p : Addr × Obj} (hp : p ∈ pinsAt fp h) : p.1 ∈ fp ∧ h.get? p.1 = some p.2 := by
 obtain ⟨b, hb, e⟩ := List.mem_filterMap.mp hp
 cases q : h.get? b with
 | none => rw [q] at e; cases e
 | some o =>
   rw [q] at e
   have e' : (b, o) = p := Option.some.inj e
   subst e'
   exact ⟨hb, q⟩
theorem Inv.pinned {pins : List (Addr × Obj)} {σ : St} {H : Hp} {s : Shared} {fp : List Addr} (I : Inv X pins σ H s) (hf : ∀ b ∈ fp, FpOk X pins H b) (ho : ∀ b ∈ fp, ∃ o, s.heap.get? b = some o ∧ ∀ v, o.data ≠ .cell v) : Inv X (pins ++ pinsAt fp s.heap) σ H s :=
 I.pins_of fun p hp => (List.mem_append.mp hp).elim (fun z => I.pin p (List.mem_append_right _ z)) fun z => by
   obtain ⟨hb, e⟩ := of_pinsAt z
   obtain ⟨f0, f1, f2, _⟩ := hf p.1 hb
   obtain ⟨o, e', d⟩ := ho p.1 hb
   rw [e] at e'; cases e'
   exact ⟨e, f0, f1, f2, d⟩
theorem Inv.unpinned {pins pl : List (Addr × Obj)} {σ : St} {H : Hp} {s : Shared} (I : Inv X (pins ++ pl) σ H s) : Inv X pins σ H s := I.pins_of fun p hp => I.pin p (List.mem_append_right _ (List.mem_append_left _ hp))
theorem ps_for {iter : Expr} {body : List Stmt} {wi : TI} {g : TG} {tb : TS} {pos : Pos} (hp : PassesOwn (model X.prog X.w) X.A X.env X.xe) (hc : X.calm = true) (hi : PI X tg iter wi) (hg : PG X tg g) (hb : PSs X body tb)
   (hs : ∀ x, foldedSetIterable iter X.env x = pure x := by intro _; rfl) : PS X (.For tg iter body [] pos) (tFor wi g tb) := by
 intro pins s σ H D I h
 refine wpAny_For (thn (hi pins s σ H _ I h) fun v s1 h1 => thn h1 fun itv s2 h2 => ?_) hs
 obtain ⟨it, fp, tn, J, H2, e, I2, T, st2, f2, W, ⟨m0, w0⟩, turn⟩ := h2
 subst e
 -- what stays true of the iterator's objects through the loop
 have stat : ∀ {H' : Hp}, (∀ b ∈ fp, H' b = none) → ∀ b ∈ fp, FpOk X pins H' b := fun hn b hb => ⟨hn b hb, (f2 b hb).2⟩
 refine codeAny_forLoop_any (fun n s' => ∃ i σ' H', Inv X pins σ' H' s' ∧ tn i s'.heap ∧ (∀ b ∈ fp, H' b = none) ∧ W i n σ' H') ?_ m0 ⟨0, σ, H2, I2, st2, fun b hb => (f2 b hb).1, w0⟩
 rintro n s3 ⟨i, σ3, H3, I3, st3, fr3, w3⟩
 rcases turn i n σ3 H3 w3 with ⟨stop, qn⟩ | ⟨go, N, hN, step⟩
 · refine wpAny_passesOwn hp (thn (T.done X rfl rfl rfl hc i pins s3 σ3 H3 X.xe I3 (stat fr3) st3 stop) fun r s4 ⟨hr, I4⟩ => ?_)
   subst hr
   exact wpAny_execs_nil ⟨σ3, H3, I4, qn⟩
 · refine wpAny_passesOwn hp (thn (T.item X rfl rfl rfl hc i pins s3 σ3 H3 X.xe I3 (stat fr3) st3 go) fun r s4 ⟨u, hr, h4⟩ => ?_)
   subst hr
   refine wpAny_passesOwn hp (thn h4 fun _ s5 ⟨x, H5, I5, r5, y5, st5, fr5⟩ => ?_)
   have I5' := I5.pinned (stat fr5) (T.obj _ _ st5)
   refine wpAny_passesOwn hp (thn (hg _ s5 σ3 H5 x u _ I5' r5 (step x H5 y5)) fun _ s6 ⟨σ6, H6, I6, q6⟩ => ?_)
   refine wpAny_passesOwn hp (thn (hb _ s6 σ6 H6 _ I6 q6) fun f s7 q7 => ?_)
   have again : ∀ {σ7 : St} {H7 : Hp}, Inv X (pins ++ pinsAt fp s5.heap) σ7 H7 s7 → N σ7 H7 → ∃ m, m < n ∧ ∃ i σ' H', Inv X pins σ' H' s7 ∧ tn i s7.heap ∧ (∀ b ∈ fp, H' b = none) ∧ W i m σ' H' := fun {σ7 H7} I7 n7 => by
     obtain ⟨m', hm, w7⟩ := hN σ7 H7 n7
     refine ⟨m', hm, i + 1, σ7, H7, I7.unpinned, T.keep _ _ _ st5 fun b hb o e => (I7.pin (b, o) (List.mem_append_right _ (List.mem_append_right _ (mem_pinsAt hb e)))).1, fun b hb => ?_, w7⟩
     obtain ⟨o, e, d⟩ := T.obj _ _ st5 b hb
     exact (I7.pin (b, o) (List.mem_append_right _ (List.mem_append_right _ (mem_pinsAt hb e)))).2.1
   cases f with
   | next => obtain ⟨σ7, H7, I7, n7⟩ := q7; exact again I7 n7
   | cont => obtain ⟨σ7, H7, I7, n7⟩ := q7; exact again I7 n7
   | brk => obtain ⟨σ7, H7, I7, q7⟩ := q7; exact ⟨σ7, H7, I7.unpinned, q7⟩
   | ret v => obtain ⟨x7, σ7, H7, I7, r7, q7⟩ := q7; exact ⟨x7, σ7, H7, I7.unpinned, r7, q7⟩
end
theorem for_list {K : PySem.W.Frag} {a : Addr} {xs : List V} {g : TG} {tb : TS} {D : Ends} {σ : St} {H : Hp} (Pv : Nat → St → Hp → Prop) (h0 : Pv 0 σ H) (hl : ∀ i σ H, i ≤ xs.length → Pv i σ H → SqL K H a xs)
   (hs : ∀ i x σ H, xs[i]? = some x → Pv i σ H → g x σ H fun σ2 H2 => tb { D with nx := Pv (i + 1), ct := Pv (i + 1), bk := D.nx } σ2 H2) (hd : ∀ σ H, Pv xs.length σ H → D.nx σ H) :
   ∃ W : Nat → Nat → St → Hp → Prop, (∃ m, W 0 m σ H) ∧ ∀ i m σ H, W i m σ H →
     ((Itl K a).stop i H ∧ D.nx σ H) ∨ ((Itl K a).go i H ∧ ∃ N : St → Hp → Prop, (∀ σ' H', N σ' H' → ∃ m', m' < m ∧ W (i + 1) m' σ' H') ∧ ∀ x H', (Itl K a).yld i H x H' → g x σ H' fun σ2 H2 => tb { D with nx := N, ct := N, bk := D.nx } σ2 H2) := by
 refine ⟨fun i m σ H => m = xs.length - i ∧ i ≤ xs.length ∧ Pv i σ H, ⟨xs.length, by simp, Nat.zero_le _, h0⟩, ?_⟩
 rintro i m σ H ⟨rfl, hi, p⟩
 have q := hl i σ H hi p
 by_cases hlt : i < xs.length
 · refine .inr ⟨⟨xs, xs[i], q, by simp [hlt]⟩, Pv (i + 1), fun σ' H' p' => ⟨xs.length - (i + 1), by omega, rfl, hlt, p'⟩, fun x H' y => ?_⟩
   obtain ⟨e, y⟩ := y
   subst e
   exact hs i x σ _ (y xs q) p
 · have e : i = xs.length := by omega
   subst e
   exact .inl ⟨⟨xs, q, Nat.le_refl _⟩, hd σ H p⟩
theorem for_range {lo : Int} {n : Nat} {g : TG} {tb : TS} {D : Ends} {σ : St} {H : Hp} (Pv : Nat → St → Hp → Prop) (h0 : Pv 0 σ H)
   (hs : ∀ i σ H, i < n → Pv i σ H → g (.int (lo + i)) σ H fun σ2 H2 => tb { D with nx := Pv (i + 1), ct := Pv (i + 1), bk := D.nx } σ2 H2) (hd : ∀ σ H, Pv n σ H → D.nx σ H) :
   ∃ W : Nat → Nat → St → Hp → Prop, (∃ m, W 0 m σ H) ∧ ∀ i m σ H, W i m σ H →
     ((Itr lo n).stop i H ∧ D.nx σ H) ∨ ((Itr lo n).go i H ∧ ∃ N : St → Hp → Prop, (∀ σ' H', N σ' H' → ∃ m', m' < m ∧ W (i + 1) m' σ' H') ∧ ∀ x H', (Itr lo n).yld i H x H' → g x σ H' fun σ2 H2 => tb { D with nx := N, ct := N, bk := D.nx } σ2 H2) := by
 refine ⟨fun i m σ H => m = n - i ∧ i ≤ n ∧ Pv i σ H, ⟨n, by simp, Nat.zero_le _, h0⟩, ?_⟩
 rintro i m σ H ⟨rfl, hi, p⟩
 by_cases hlt : i < n
 · refine .inr ⟨hlt, Pv (i + 1), fun σ' H' p' => ⟨n - (i + 1), by omega, rfl, hlt, p'⟩, fun x H' y => ?_⟩
   obtain ⟨e, y⟩ := y
   subst e y
   exact hs i σ _ hlt p
 · have e : i = n := by omega
   subst e
   exact .inl ⟨Nat.le_refl _, hd σ H p⟩
end L2
namespace L2
open PySem PySem.Spec PyProof.Rows
abbrev R2 := V → V → Hp → VK → Prop
def OpR (X : Cx) (f : Value → Value → Sem Value) (r : R2) : Prop :=
 ∀ (pins : List (Addr × Obj)) (s : Shared) (σ : St) (H : Hp) (x y : V) (v u : Value) (Q : VK), Inv X pins σ H s → RelV x v → RelV y u → r x y H Q →
   wpAny (model X.prog X.w) X.A (f v u) (EP X pins σ Q) X.xe s
def UnR (X : Cx) (f : Value → Sem Value) (r : V → Hp → VK → Prop) : Prop :=
 ∀ (pins : List (Addr × Obj)) (s : Shared) (σ : St) (H : Hp) (x : V) (v : Value) (Q : VK), Inv X pins σ H s → RelV x v → r x H Q →
   wpAny (model X.prog X.w) X.A (f v) (EP X pins σ Q) X.xe s
def CallR (X : Cx) (f : Value) (r : List V → Hp → VK → Prop) : Prop :=
 ∀ (pins : List (Addr × Obj)) (s : Shared) (σ : St) (H : Hp) (xs : List V) (us : List Value) (Q : VK), Inv X pins σ H s → Vals xs us → r xs H Q →
   wpAny (model X.prog X.w) X.A (call f us) (EP X pins σ Q) X.xe s
def tOp (r : R2) (ta tb : TE) : TE := fun σ H Q => ta σ H fun x H1 => tb σ H1 fun y H2 => r x y H2 Q
def tUn (r : V → Hp → VK → Prop) (ta : TE) : TE := fun σ H Q => ta σ H fun x H1 => r x H1 Q
def rI (C : Int → Int → Prop) (g : Int → Int → V) : R2 := fun x y H Q => ∃ i j, x = .int i ∧ y = .int j ∧ C i j ∧ Q (g i j) H
def rI0 (g : Int → Int → V) : R2 := fun x y H Q => ∃ i j, x = .int i ∧ y = .int j ∧ Q (g i j) H
def rU (g : Int → V) : V → Hp → VK → Prop := fun x H Q => ∃ i, x = .int i ∧ Q (g i) H
section
variable {X : Cx} {a b c : Expr} {ta tb tc : TE} {pos : Pos}
theorem binT (ha : PE X a ta) (hb : PE X b tb) {pins : List (Addr × Obj)} {s : Shared} {σ : St} {H : Hp} {R : V → V → Hp → Prop} (I : Inv X pins σ H s)
   (h : ta σ H fun x H1 => tb σ H1 fun y H2 => R x y H2) {Q : Value → Shared → Prop} {f : Value → Value → Sem Value}
   (hf : ∀ v u s2 x y H2, Inv X pins σ H2 s2 → RelV x v → RelV y u → R x y H2 → wpAny (model X.prog X.w) X.A (f v u) Q X.xe s2) :
   wpAny (model X.prog X.w) X.A (eval a X.env) (fun v s₁ => wpAny (model X.prog X.w) X.A (eval b X.env) (fun u s₂ => wpAny (model X.prog X.w) X.A (f v u) Q X.xe s₂) X.xe s₁) X.xe s := by
 refine thn (ha pins s σ H _ I h) fun v s1 ⟨x, H1, I1, r1, q1⟩ => ?_
 refine thn (hb pins s1 σ H1 _ I1 q1) fun u s2 ⟨y, H2, I2, r2, q2⟩ => ?_
 exact hf v u s2 x y H2 I2 r1 r2 q2
theorem pe_op {op : Operator} {r : R2} (ho : OpR X (binaryOp op) r) (ha : PE X a ta) (hb : PE X b tb) : PE X (.BinOp a op b pos) (tOp r ta tb) := by
 intro pins s σ H Q I h
 exact wpAny_BinOp (binT ha hb I h fun v u s2 x y H2 I2 rx ry q => ho pins s2 σ H2 x y v u Q I2 rx ry q)
theorem pe_un {op : UnaryOp} {r : V → Hp → VK → Prop} (ho : UnR X (unaryOp op) r) (ha : PE X a ta) : PE X (.UnaryOp op a pos) (tUn r ta) := by
 intro pins s σ H Q I h
 exact UnaryOp_ (thn (ha pins s σ H _ I h) fun v s1 ⟨x, H1, I1, r1, q1⟩ => ho pins s1 σ H1 x v Q I1 r1 q1)
theorem opI {f : Value → Value → Sem Value} {C : Int → Int → Prop} {g : Int → Int → Int}
   (rule : ∀ (i j : Int) (t u : Tok) (s : Shared) (Q : Value → Shared → Prop) (E : Value → Shared → Prop), C i j → Q (.int (g i j) s.toks) { s with toks := s.toks + 1 } → wpAny (model X.prog X.w) X.A (f (.int i t) (.int j u)) Q E s) :
   OpR X f (rI C fun i j => .int (g i j)) := by
 intro pins s σ H x y v u Q I rx ry h
 obtain ⟨i, j, rfl, rfl, hc, q⟩ := h
 obtain ⟨t, rfl⟩ := rx
 obtain ⟨t', rfl⟩ := ry
 exact rule i j t t' s _ _ hc ⟨.int (g i j), H, I.tok _, ⟨_, rfl⟩, q⟩
theorem opI0 {f : Value → Value → Sem Value} {g : Int → Int → Int}
   (rule : ∀ (i j : Int) (t u : Tok) (s : Shared) (Q : Value → Shared → Prop) (E : Value → Shared → Prop), Q (.int (g i j) s.toks) { s with toks := s.toks + 1 } → wpAny (model X.prog X.w) X.A (f (.int i t) (.int j u)) Q E s) :
   OpR X f (rI0 fun i j => .int (g i j)) := by
 intro pins s σ H x y v u Q I rx ry h
 obtain ⟨i, j, rfl, rfl, q⟩ := h
 obtain ⟨t, rfl⟩ := rx
 obtain ⟨t', rfl⟩ := ry
 exact rule i j t t' s _ _ ⟨.int (g i j), H, I.tok _, ⟨_, rfl⟩, q⟩
theorem opB0 {f : Value → Value → Sem Value} {g : Int → Int → Bool}
   (rule : ∀ (i j : Int) (t u : Tok) (s : Shared) (Q : Value → Shared → Prop) (E : Value → Shared → Prop), Q (.bool (g i j)) s → wpAny (model X.prog X.w) X.A (f (.int i t) (.int j u)) Q E s) :
   OpR X f (rI0 fun i j => .bl (g i j)) := by
 intro pins s σ H x y v u Q I rx ry h
 obtain ⟨i, j, rfl, rfl, q⟩ := h
 obtain ⟨t, rfl⟩ := rx
 obtain ⟨t', rfl⟩ := ry
 exact rule i j t t' s _ _ ⟨.bl (g i j), H, I, rfl, q⟩
def CDiv (i j : Int) : Prop := 0 < j ∧ j < 1073741824
def CPow (i j : Int) : Prop := 0 ≤ j ∧ j ≤ 1000000 ∧ i.natAbs < 2 ^ 64
def CMul (i j : Int) : Prop := (-(2 ^ 64) < i ∧ i < 2 ^ 64) ∨ (-(2 ^ 64) < j ∧ j < 2 ^ 64)
theorem CMul.ok {i j : Int} (h : CMul i j) : IntMulOk i j := by
 rcases h with ⟨h1, h2⟩ | ⟨h1, h2⟩
 · exact .of_left (intBits_le_64 h1 h2)
 · exact .of_right (intBits_le_64 h1 h2)
theorem op_add : OpR X (binaryOp .Add) (rI0 fun i j => .int (i + j)) := opI0 fun _ _ _ _ _ _ _ q => add_int q
theorem op_sub : OpR X (binaryOp .Sub) (rI0 fun i j => .int (i - j)) := opI0 fun _ _ _ _ _ _ _ q => sub_int q
theorem op_fdiv : OpR X (binaryOp .FloorDiv) (rI CDiv fun i j => .int (i / j)) := opI fun i j _ _ _ _ _ hc q => by
 have h1 : (0 : Int) < j := hc.1
 have h2 : j < 1073741824 := hc.2
 exact floordiv_int (by omega) (by rw [Int.fdiv_eq_ediv_of_nonneg i (by omega)]; exact q) (.inl (PyProof.noPylong_small (by omega)))
theorem op_mod : OpR X (binaryOp .Mod) (rI (fun _ j => 0 < j) fun i j => .int (i % j)) := opI fun i j _ _ _ _ _ hc q => by
 have h1 : (0 : Int) < j := hc
 exact mod_int' (by omega) (by rw [Int.fmod_eq_emod_of_nonneg i (by omega)]; exact q)
theorem op_pow : OpR X (binaryOp .Pow) (rI CPow fun i j => .int (i ^ j.toNat)) := opI fun _ _ _ _ _ _ _ hc q => pow_int_small hc.1 hc.2.1 hc.2.2 q
theorem unI {f : Value → Sem Value} {g : Int → Int}
   (rule : ∀ (i : Int) (t : Tok) (s : Shared) (Q : Value → Shared → Prop) (E : Value → Shared → Prop), Q (.int (g i) s.toks) { s with toks := s.toks + 1 } → wpAny (model X.prog X.w) X.A (f (.int i t)) Q E s) :
   UnR X f (rU fun i => .int (g i)) := by
 intro pins s σ H x v Q I rx h
 obtain ⟨i, rfl, q⟩ := h
 obtain ⟨t, rfl⟩ := rx
 exact rule i t s _ _ ⟨.int (g i), H, I.tok _, ⟨_, rfl⟩, q⟩
theorem un_neg : UnR X (unaryOp .USub) (rU fun i => .int (-i)) := unI fun _ _ _ _ _ q => neg_int q
end
def scal : V → V → Bool
 | .non, .non => true | .non, .int _ => true | .int _, .non => true | .non, .bl _ => true | .bl _, .non => true | .non, .str _ => true | .str _, .non => true
 | .int _, .int _ => true | .bl _, .bl _ => true | .str _, .str _ => true | .byt _, .byt _ => true
 | .int _, .str _ => true | .str _, .int _ => true | .bl _, .str _ => true | .str _, .bl _ => true
 | _, _ => false
def rEq : R2 := fun x y H Q => scal x y = true ∧ Q (.bl (decide (x = y))) H
def rNe : R2 := fun x y H Q => scal x y = true ∧ Q (.bl (!decide (x = y))) H
theorem dec_int {i j : Int} : decide (V.int i = V.int j) = (i == j) := by
 rw [Bool.eq_iff_iff]
 simp
theorem dec_bl {i j : Bool} : decide (V.bl i = V.bl j) = (i == j) := by
 rw [Bool.eq_iff_iff]
 simp
theorem dec_str {i j : Str} : decide (V.str i = V.str j) = (i == j) := by
 rw [Bool.eq_iff_iff]
 simp
theorem dec_byt {i j : Array UInt8} : decide (V.byt i = V.byt j) = (i.toList == j.toList) := by
 rw [Bool.eq_iff_iff]
 cases i
 cases j
 simp
section
variable {X : Cx} {a b c : Expr} {ta tb tc : TE} {pos : Pos}
theorem fin_bl {pins : List (Addr × Obj)} {σ : St} {H : Hp} {s : Shared} {Q : VK} {k k' : Bool} (I : Inv X pins σ H s) (q : Q (.bl k) H) (e : k = k') : EP X pins σ Q (.bool k') s := by
 subst e
 exact ⟨.bl k, H, I, rfl, q⟩
theorem op_eq : OpR X (compareOp .Eq) rEq := by
 intro pins s σ H x y v u Q I rx ry h
 obtain ⟨hs, q⟩ := h
 cases x with
 | non =>
   cases rx
   cases y with
   | non => cases ry; exact PySem.EqNone.eq_none_none (fin_bl I q (by simp))
   | bl j => cases ry; exact PySem.EqNone.eq_none_bool (fin_bl I q (by simp))
   | int j => obtain ⟨t', rfl⟩ := ry; exact PySem.EqNone.eq_none_int (fin_bl I q (by simp))
   | str j => obtain ⟨t', rfl⟩ := ry; exact PySem.EqNone.eq_none_str (fin_bl I q (by simp))
   | _ => exact absurd (show false = true from hs) Bool.false_ne_true
 | bl i =>
   cases rx
   cases y with
   | non => cases ry; exact PySem.EqNone.eq_bool_none (fin_bl I q (by simp))
   | bl j => cases ry; exact eq_bool (fin_bl I q dec_bl)
   | str j => obtain ⟨t', rfl⟩ := ry; exact PySem.EqMixed.eq_bool_str (fin_bl I q (by simp))
   | _ => exact absurd (show false = true from hs) Bool.false_ne_true
 | int i =>
   obtain ⟨t, rfl⟩ := rx
   cases y with
   | non => cases ry; exact PySem.EqNone.eq_int_none (fin_bl I q (by simp))
   | int j => obtain ⟨t', rfl⟩ := ry; exact eq_int (fin_bl I q dec_int)
   | str j => obtain ⟨t', rfl⟩ := ry; exact PySem.EqMixed.eq_int_str (fin_bl I q (by simp))
   | _ => exact absurd (show false = true from hs) Bool.false_ne_true
 | str i =>
   obtain ⟨t, rfl⟩ := rx
   cases y with
   | non => cases ry; exact PySem.EqNone.eq_str_none (fin_bl I q (by simp))
   | bl j => cases ry; exact PySem.EqMixed.eq_str_bool (fin_bl I q (by simp))
   | int j => obtain ⟨t', rfl⟩ := ry; exact PySem.EqMixed.eq_str_int (fin_bl I q (by simp))
   | str j => obtain ⟨t', rfl⟩ := ry; exact eq_str (fin_bl I q dec_str)
   | _ => exact absurd (show false = true from hs) Bool.false_ne_true
 | byt i =>
   obtain ⟨t, rfl⟩ := rx
   cases y with
   | byt j => obtain ⟨t', rfl⟩ := ry; exact PySem.W.eq_bytes (fin_bl I q dec_byt)
   | _ => exact absurd (show false = true from hs) Bool.false_ne_true
 | _ => cases y <;> exact absurd (show false = true from hs) Bool.false_ne_true
theorem op_ne : OpR X (compareOp .NotEq) rNe := by
 intro pins s σ H x y v u Q I rx ry h
 obtain ⟨hs, q⟩ := h
 cases x with
 | non =>
   cases rx
   cases y with
   | non => cases ry; exact PySem.EqNone.ne_none_none (fin_bl I q (by simp))
   | bl j => cases ry; exact PySem.EqNone.ne_none_bool (fin_bl I q (by simp))
   | int j => obtain ⟨t', rfl⟩ := ry; exact PySem.EqNone.ne_none_int (fin_bl I q (by simp))
   | str j => obtain ⟨t', rfl⟩ := ry; exact PySem.EqNone.ne_none_str (fin_bl I q (by simp))
   | _ => exact absurd (show false = true from hs) Bool.false_ne_true
 | bl i =>
   cases rx
   cases y with
   | non => cases ry; exact PySem.EqNone.ne_bool_none (fin_bl I q (by simp))
   | bl j => cases ry; exact ne_bool (fin_bl I q (congrArg not dec_bl))
   | str j => obtain ⟨t', rfl⟩ := ry; exact PySem.EqMixed.ne_bool_str (fin_bl I q (by simp))
   | _ => exact absurd (show false = true from hs) Bool.false_ne_true
 | int i =>
   obtain ⟨t, rfl⟩ := rx
   cases y with
   | non => cases ry; exact PySem.EqNone.ne_int_none (fin_bl I q (by simp))
   | int j => obtain ⟨t', rfl⟩ := ry; exact ne_int (fin_bl I q (congrArg not dec_int))
   | str j => obtain ⟨t', rfl⟩ := ry; exact PySem.EqMixed.ne_int_str (fin_bl I q (by simp))
   | _ => exact absurd (show false = true from hs) Bool.false_ne_true
 | str i =>
   obtain ⟨t, rfl⟩ := rx
   cases y with
   | non => cases ry; exact PySem.EqNone.ne_str_none (fin_bl I q (by simp))
   | bl j => cases ry; exact PySem.EqMixed.ne_str_bool (fin_bl I q (by simp))
   | int j => obtain ⟨t', rfl⟩ := ry; exact PySem.EqMixed.ne_str_int (fin_bl I q (by simp))
   | str j => obtain ⟨t', rfl⟩ := ry; exact ne_str (fin_bl I q (congrArg not dec_str))
   | _ => exact absurd (show false = true from hs) Bool.false_ne_true
 | byt i =>
   obtain ⟨t, rfl⟩ := rx
   cases y with
   | byt j => obtain ⟨t', rfl⟩ := ry; exact PySem.W.ne_bytes (fin_bl I q (congrArg not dec_byt))
   | _ => exact absurd (show false = true from hs) Bool.false_ne_true
 | _ => cases y <;> exact absurd (show false = true from hs) Bool.false_ne_true
theorem op_lt : OpR X (compareOp .Lt) (rI0 fun i j => .bl (decide (i < j))) := opB0 fun _ _ _ _ _ _ _ q => lt_int q
theorem op_le : OpR X (compareOp .LtE) (rI0 fun i j => .bl (decide (i ≤ j))) := opB0 fun _ _ _ _ _ _ _ q => le_int q
theorem op_gt : OpR X (compareOp .Gt) (rI0 fun i j => .bl (decide (j < i))) := opB0 fun _ _ _ _ _ _ _ q => gt_int q
theorem op_ge : OpR X (compareOp .GtE) (rI0 fun i j => .bl (decide (j ≤ i))) := opB0 fun _ _ _ _ _ _ _ q => ge_int q
theorem op_isN : OpR X (compareOp .Is) (fun x y H Q => y = .non ∧ Q (.bl (decide (x = .non))) H) := by
 intro pins s σ H x y v u Q I rx ry h
 obtain ⟨rfl, q⟩ := h
 cases ry
 refine is_none_gen (fin_bl I q ?_)
 cases x <;> first
   | (cases rx; rfl)
   | (obtain ⟨t, rfl⟩ := rx; rfl)
theorem op_notN : OpR X (compareOp .IsNot) (fun x y H Q => y = .non ∧ Q (.bl (!decide (x = .non))) H) := by
 intro pins s σ H x y v u Q I rx ry h
 obtain ⟨rfl, q⟩ := h
 cases ry
 refine isnot_none_gen (fin_bl I q ?_)
 cases x <;> first
   | (cases rx; rfl)
   | (obtain ⟨t, rfl⟩ := rx; rfl)
theorem OpR.or {f : Value → Value → Sem Value} {r r' : R2} (h : OpR X f r) (h' : OpR X f r') : OpR X f (fun x y H Q => r x y H Q ∨ r' x y H Q) := by
 intro pins s σ H x y v u Q I rx ry q
 rcases q with q | q
 · exact h pins s σ H x y v u Q I rx ry q
 · exact h' pins s σ H x y v u Q I rx ry q
theorem nomark (b : Expr) {op : CmpOp} (h : op ≠ .In := by decide) (h2 : op ≠ .NotIn := by decide) : behindInMarks op b = false := by
 have e1 : (op == CmpOp.In) = false := by cases op <;> first | rfl | exact absurd rfl h
 have e2 : (op == CmpOp.NotIn) = false := by cases op <;> first | rfl | exact absurd rfl h2
 cases b <;> simp [behindInMarks, e1, e2]
theorem pe_cmpR {op : CmpOp} {r : R2} (ho : OpR X (compareOp op) r) (ha : PE X a ta) (hb : PE X b tb) (hm : behindInMarks op b = false) : PE X (.Compare a [op] [b] pos) (tOp r ta tb) := by
 intro pins s σ H Q I h
 exact wpAny_Compare1 (binT ha hb I h fun v u s2 x y H2 I2 rx ry q => ho pins s2 σ H2 x y v u Q I2 rx ry q) hm
def tTest (t : TE) : TT := fun σ H Q => t σ H fun x H' => ∃ k, x = .bl k ∧ Q k H'
theorem pt_cmpR {op : CmpOp} {r : R2} (ho : OpR X (compareOp op) r) (ha : PE X a ta) (hb : PE X b tb) (hm : behindInMarks op b = false) : PT X (.Compare a [op] [b] pos) (tTest (tOp r ta tb)) := by
 intro pins s σ H Q I h
 refine wpAny_isTrue_Compare1 (thn (ha pins s σ H _ I h) fun v s1 ⟨x, H1, I1, r1, q1⟩ => thn (hb pins s1 σ H1 _ I1 q1) fun u s2 ⟨y, H2, I2, r2, q2⟩ =>
   thn (ho pins s2 σ H2 x y v u _ I2 r1 r2 q2) fun c s3 ⟨z, H3, I3, r3, k, e, q3⟩ => ?_) hm
 subst e
 cases r3
 exact wpAny_truthy_bool ⟨H3, I3, q3⟩
theorem line63 : (sizeLine : Nat) < 2 ^ 63 := by rw [sizeLine_eq]; decide
theorem op_add_str : OpR X (binaryOp .Add) (fun x y H Q => ∃ i j, x = .str i ∧ y = .str j ∧ i.length + j.length ≤ sizeLine ∧ Q (.str (i ++ j)) H) := by
 intro pins s σ H x y v u Q I rx ry h
 obtain ⟨i, j, rfl, rfl, hz, q⟩ := h
 obtain ⟨t, rfl⟩ := rx
 obtain ⟨t', rfl⟩ := ry
 exact add_str (fun t' tk => ⟨.str (i ++ j), H, I.tok _, ⟨_, rfl⟩, q⟩) hz
theorem vals1 {x : V} {us : List Value} (r : Vals [x] us) : ∃ u, us = [u] ∧ RelV x u := by
 cases r with
 | cons r1 r2 => cases r2; exact ⟨_, rfl, r1⟩
theorem vals2 {x y : V} {us : List Value} (r : Vals [x, y] us) : ∃ u w', us = [u, w'] ∧ RelV x u ∧ RelV y w' := by
 cases r with
 | cons r1 r2 =>
   cases r2 with
   | cons r3 r4 => cases r4; exact ⟨_, _, rfl, r1, r3⟩
theorem call_max2 (hc : X.calm = true) : CallR X (.builtin "max") (fun xs H Q => ∃ i j, xs = [.int i, .int j] ∧ Q (.int (if j > i then j else i)) H) := by
 intro pins s σ H xs us Q I r h
 obtain ⟨i, j, rfl, q⟩ := h
 obtain ⟨u, w', rfl, ⟨t, rfl⟩, ⟨t', rfl⟩⟩ := vals2 r
 refine max_two_ints (I.ok.hd hc) fun h' tk k => ⟨_, H, I.kept k, ?_, q⟩
 by_cases hj : j > i
 · rw [if_pos hj, if_pos hj]; exact ⟨_, rfl⟩
 · rw [if_neg hj, if_neg hj]; exact ⟨_, rfl⟩
theorem call_int1 : CallR X (.type "int") (fun xs H Q => (∃ i, xs = [.int i] ∧ Q (.int i) H) ∨ ∃ k, xs = [.bl k] ∧ Q (.int (if k then 1 else 0)) H) := by
 intro pins s σ H xs us Q I r h
 rcases h with ⟨i, rfl, q⟩ | ⟨k, rfl, q⟩
 · obtain ⟨u, rfl, t, rfl⟩ := vals1 r
   exact call_int_int ⟨.int i, H, I, ⟨_, rfl⟩, q⟩
 · obtain ⟨u, rfl, r1⟩ := vals1 r
   cases r1
   exact call_int_bool ⟨.int (if k then 1 else 0), H, I.tok _, ⟨_, rfl⟩, q⟩
end
end L2
namespace L2
open PySem PySem.Spec PyProof.Rows
structure ObjM (h : Heap) (x dx C : Addr) (mA : Str → Option Value) : Prop where
 obj : h.get? x = some (PySem.W.instObj C dx)
 ns : h.Ns1 dx mA
 ne : dx ≠ x
theorem lookIn_ns {h : Heap} {dx : Addr} {mA : Str → Option Value} (n : h.Ns1 dx mA) : ∃ od, h.get? dx = some od ∧ ∀ name, PySem.W.lookIn name od = some (mA name) := by
 obtain ⟨o, es, ep, ho, hd, hk, _, hm⟩ := n
 refine ⟨o, ho, fun name => ?_⟩
 have e := hm name
 unfold nsFind findBy at e
 rw [← Array.find?_toList] at e
 unfold PySem.W.lookIn
 rw [hd]
 dsimp only
 split
 · rename_i y q
   rw [q] at e
   exact congrArg some e
 · rename_i q
   rw [q] at e
   have a : es.toList.any (·.refKey) = false := by
     rw [List.any_eq_false]
     intro y hy
     obtain ⟨z, t, hkey⟩ := hk y (Array.mem_toList_iff.mp hy)
     simp [DictEntry.refKey, hkey]
   have a' : ¬ es.toList.any (·.refKey) = true := by rw [a]; exact Bool.false_ne_true
   rw [if_neg a']
   exact congrArg some e
theorem ObjM.look {h : Heap} {x dx C : Addr} {mA : Str → Option Value} (I : ObjM h x dx C mA) : ∃ od, PySem.W.InstAt h x (PySem.W.instObj C dx) C (some od) ∧ ∀ name, PySem.W.lookIn name od = some (mA name) :=
 let ⟨od, ho, hl⟩ := lookIn_ns I.ns
 ⟨od, ⟨I.obj, rfl, rfl, ho⟩, hl⟩
section
variable {prog : Program} {w : World} {A : Around} {E : Value → Shared → Prop} {s : Shared} {K : PySem.W.Frag} {x dx C f : Addr} {mA : Str → Option Value} {name : Str} {v : Value}
theorem get_map {expr : Bool} {Q : Value → Shared → Prop} (X : K.In s.heap) (I : ObjM s.heap x dx C mA) (hg : PySem.W.plainGet K C name = true) (hh : PySem.W.hasDictIn K C = true)
   (ha : PySem.W.findIn K (.ref C) name = some none) (hv : mA name = some v) (hv' : PySem.W.handedIn v = true) (h : Q v { s with toks := s.toks + 1 }) :
   wpAny (model prog w) A (getAttr (.ref x) name expr) Q E s := by
 obtain ⟨od, J, hl⟩ := I.look
 exact PySem.W.get_value X J (PySem.W.plainGet_of hg).1 (PySem.W.findObj_own hh ha rfl (by rw [hl, hv])) hv' h
theorem get_meth {pl : Sem Bool} {Q : Value × List Value → Shared → Prop} (X : K.In s.heap) (I : ObjM s.heap x dx C mA) (hg : PySem.W.plainGet K C name = true)
   (hf : PySem.W.findIn K (.ref C) name = some (some (.ref f))) (ht : PySem.W.isFn K (.ref f) = true) (hv : mA name = none) (h : Q (.ref f, [.ref x]) s) :
   wpAny (model prog w) A (getMethod (.ref x) name pl) Q E s := by
 obtain ⟨od, J, hl⟩ := I.look
 exact PySem.W.method_fn X J (PySem.W.plainGet_of hg).1 (PySem.W.plainGet_of hg).2 hf (beq_iff_eq.mp ht) (by show (PySem.W.lookIn name od).map (·.isSome) = some false; rw [hl, hv]; rfl) h
theorem set_map {ns : List Str} {Q : Unit → Shared → Prop} (X : K.In s.heap) (I : ObjM s.heap x dx C mA)
   (hs : PySem.W.findIn K (.ref C) "__setattr__" = some (some (.builtin "object.__setattr__"))) (hp : PySem.W.plainOver K C = true) (ht : PySem.W.takerIn K C name = some none) (hh : PySem.W.hasDictIn K C = true)
   (hw : PySem.Within mA ns) (hsz : ns.length ≤ sizeLine)
   (h : ∀ h', ObjM h' x dx C (fun y => if y = name then some v else mA y) → Heap.SameBut dx s.heap h' → Q () { s with heap := h', toks := s.toks + 2 }) :
   wpAny (model prog w) A (setAttr (.ref x) name v) Q E s := by
 obtain ⟨od, J, hl⟩ := I.look
 refine PySem.W.set_plain X J hs (PySem.W.osa_open (s := { s with toks := s.toks + 1 }) (r := none) X J hp ht fun b => ?_)
 obtain ⟨cd, hc, hd'⟩ := PySem.W.any_some hh
 have hx : s.heap.get? x = some ⟨.ref C, some dx, .plain, #[]⟩ := I.obj
 refine wpAny_bind (wpAny_pure (wpAny_bind (wpAny_bind (wpAny_loadPart hx (wpAny_bind (PySem.W.Looks.here (s := { s with toks := s.toks + 1 }) (PySem.W.looks_clsIn X hc) ?_))))))
 rw [hd']
 refine wpAny_pure (a := some dx) (wpAny_bind (wpAny_pure (wpAny_bind ?_)))
 refine wpAny_nsSet1 (s := { s with toks := s.toks + 1 }) I.ns fun h' hn2 hs2 => ?_
 obtain ⟨oD, esD, epD, hoD, hdD, hcD⟩ := hn2.count (PySem.Within.cons name v hw)
 refine wpAny_bind (wpAny_lookBehind hoD (by rw [hdD]; exact pastItsLine_dict (Nat.le_trans hcD (by rw [List.length_cons]; omega))) ?_)
 exact wpAny_pure (h _ ⟨(hs2.2 _ (Ne.symm I.ne)).trans I.obj, hn2, I.ne⟩ hs2)
theorem make_map {R : Result → Shared → Prop} {vs : List Value} {kw : List (Str × Value)} (X : K.In s.heap) (hm : PySem.W.makesIn K C = true)
   (hi : PySem.W.findIn K (.ref C) "__init__" = some (some (.ref f))) (hf : PySem.W.typeIn K (.ref f) = some (.type "function"))
   (h : codeAny (model prog w) (A.under (.builtin "type.__call__" ⟨.ref C :: vs, kw⟩)) (.call (.ref f) ⟨.ref (s.heap.objs.size + 1) :: vs, kw⟩) (PySem.W.InitBack (s.heap.objs.size + 1) R)
     { s with heap := (s.heap.push PySem.W.emptyDict).push (PySem.W.instObj C s.heap.objs.size) }) :
   codeAny (model prog w) A (.call (.ref C) ⟨vs, kw⟩) R s := by
 obtain ⟨hh, g, d, t, os⟩ := s
 exact PySem.W.make_core (PySem.W.makes_of X hm) (PySem.W.looks_findIn X hi) (fun self => PySem.W.bind_fn X self hf) (.inl rfl) h
end
def putF (f : Str) (v : V) : List (Str × V) → List (Str × V)
 | [] => [(f, v)]
 | (g, x) :: r => if g = f then (g, v) :: r else (g, x) :: putF f v r
theorem lookup_putF (f g : Str) (v : V) : ∀ fs : List (Str × V), (putF f v fs).lookup g = if g = f then some v else fs.lookup g
 | [] => by
   show List.lookup g [(f, v)] = _
   by_cases h : g = f
   · have hb : (g == f) = true := beq_iff_eq.mpr h
     simp only [List.lookup, hb, if_pos h]
   · have hb : (g == f) = false := beq_eq_false_iff_ne.mpr h
     simp only [List.lookup, hb, if_neg h]
 | (k, x) :: r => by
   have ih := lookup_putF f g v r
   rw [show putF f v ((k, x) :: r) = (if k = f then (k, v) :: r else (k, x) :: putF f v r) from rfl]
   by_cases hk : k = f
   · rw [if_pos hk]
     by_cases h : g = k
     · have hb : (g == k) = true := beq_iff_eq.mpr h
       simp only [List.lookup, hb, if_pos (h.trans hk)]
     · have hb : (g == k) = false := beq_eq_false_iff_ne.mpr h
       simp only [List.lookup, hb, if_neg (fun e : g = f => h (e.trans hk.symm))]
   · rw [if_neg hk]
     by_cases h : g = k
     · have hb : (g == k) = true := beq_iff_eq.mpr h
       simp only [List.lookup, hb, if_neg (fun e : g = f => hk (h.symm.trans e))]
     · have hb : (g == k) = false := beq_eq_false_iff_ne.mpr h
       simp only [List.lookup, hb]
       exact ih
theorem keys_putF (f : Str) (v : V) : ∀ fs : List (Str × V), f ∈ (putF f v fs).map (·.1) ∧ ∀ g, g ∈ fs.map (·.1) → g ∈ (putF f v fs).map (·.1)
 | [] => ⟨by simp [putF], fun g h => by simp at h⟩
 | (k, x) :: r => by
   obtain ⟨i1, i2⟩ := keys_putF f v r
   rw [show putF f v ((k, x) :: r) = (if k = f then (k, v) :: r else (k, x) :: putF f v r) from rfl]
   by_cases hk : k = f
   · rw [if_pos hk]
     subst hk
     exact ⟨by simp, fun g h => by simpa using h⟩
   · rw [if_neg hk]
     refine ⟨?_, fun g h => ?_⟩
     · rw [List.map_cons]
       exact List.mem_cons_of_mem _ i1
     · rw [List.map_cons] at h ⊢
       rcases List.mem_cons.mp h with e | e
       · exact List.mem_cons.mpr (.inl e)
       · exact List.mem_cons_of_mem _ (i2 g e)
theorem length_putF (f : Str) (v : V) : ∀ fs : List (Str × V), (putF f v fs).length ≤ fs.length + 1
 | [] => by simp [putF]
 | (k, x) :: r => by
   have ih := length_putF f v r
   rw [show putF f v ((k, x) :: r) = (if k = f then (k, v) :: r else (k, x) :: putF f v r) from rfl]
   by_cases hk : k = f
   · rw [if_pos hk, List.length_cons, List.length_cons]; omega
   · rw [if_neg hk, List.length_cons, List.length_cons]; omega
theorem RelO.some_of {v : V} {o : Option Value} (r : RelO (some v) o) : ∃ u, o = some u ∧ RelV v u := by
 cases o with
 | none => exact (show False from r).elim
 | some u => exact ⟨u, rfl, r⟩
theorem RelO.none_of {o : Option Value} (r : RelO none o) : o = none := by
 cases o with
 | none => rfl
 | some u => exact (show False from r).elim
theorem handed_of {v : V} {u : Value} (r : RelV v u) : PySem.W.handedIn u = true := by
 cases v with
 | non => cases (show u = Value.none from r); rfl
 | bl b => cases (show u = Value.bool b from r); rfl
 | int i => obtain ⟨t, e⟩ := (show ∃ t, u = Value.int i t from r); cases e; rfl
 | str x => obtain ⟨t, e⟩ := (show ∃ t, u = Value.str x t from r); cases e; rfl
 | byt b => obtain ⟨t, e⟩ := (show ∃ t, u = Value.bytes b t from r); cases e; rfl
 | flt b => obtain ⟨t, e⟩ := (show ∃ t, u = Value.float b t from r); cases e; rfl
 | ref a => cases (show u = Value.ref a from r); rfl
 | ty n => cases (show u = Value.type n from r); rfl
section
variable {P : Program} {w : World} {H H' : Hp} {h h' : Heap} {a C dx : Addr} {fs fs' : List (Str × V)}
theorem ins_get (hok : HOk P w H h) (e : H a = some (.ins C dx fs)) : ∃ mA, ObjM h a dx C mA ∧ (∀ f, RelO (fs.lookup f) (mA f)) ∧ PySem.Within mA (fs.map (·.1)) ∧ fs.length ≤ 1000 ∧ H dx = some (.own a) := by
 obtain ⟨d, z, ne, ob, mA, n, r, q⟩ := (show ObjOk P w H h a (.ins C dx fs) from hok a _ e)
 exact ⟨mA, ⟨ob, n, ne⟩, r, q, z, d⟩
end
structure Cls (K : PySem.W.Frag) (C : Addr) : Prop where
 pg : PySem.W.plainGet K C Str.empty = true
 hd : PySem.W.hasDictIn K C = true
 po : PySem.W.plainOver K C = true
 sa : PySem.W.findIn K (.ref C) "__setattr__" = some (some (.builtin "object.__setattr__"))
theorem Cls.get {K : PySem.W.Frag} {C : Addr} (c : Cls K C) (f : Str) : PySem.W.plainGet K C f = true := c.pg
def NoAttr (K : PySem.W.Frag) (C : Addr) (f : Str) : Prop := PySem.W.findIn K (.ref C) f = some none
theorem NoAttr.taker {K : PySem.W.Frag} {C : Addr} {f : Str} (n : NoAttr K C f) : PySem.W.takerIn K C f = some none := by
 unfold PySem.W.takerIn
 rw [show PySem.W.findIn K (.ref C) f = some none from n]
 rfl
structure Meth (K : PySem.W.Frag) (C : Addr) (m : Str) (f : Addr) : Prop where
 at_ : PySem.W.findIn K (.ref C) m = some (some (.ref f))
 fn : PySem.W.isFn K (.ref f) = true
 kp : PySem.W.keepIn K (.ref f) = true
section
variable {X : Cx} {pins : List (Addr × Obj)} {σ : St} {H : Hp} {s : Shared} {a C dx : Addr} {fs : List (Str × V)} {f : Str} {v : V} {A : Around} {E : Value → Shared → Prop}
theorem getattr_ok {b : Bool} {Q : Value → Shared → Prop} (I : Inv X pins σ H s) (e : H a = some (.ins C dx fs)) (c : Cls X.K C) (n : NoAttr X.K C f) (l : fs.lookup f = some v)
   (h : ∀ u s', Inv X pins σ H s' → RelV v u → Q u s') : wpAny (model X.prog X.w) A (getAttr (.ref a) f b) Q E s := by
 obtain ⟨mA, O, r, _, _, _⟩ := ins_get I.hok e
 obtain ⟨u, hu, ru⟩ := RelO.some_of (v := v) (o := mA f) (by rw [← l]; exact r f)
 exact get_map I.kIn O (c.get f) c.hd n hu (handed_of ru) (h u _ (I.tok _) ru)
theorem getmeth_ok {m : Str} {g : Addr} {pl : Sem Bool} {Q : Value × List Value → Shared → Prop} (I : Inv X pins σ H s) (e : H a = some (.ins C dx fs)) (c : Cls X.K C) (k : Meth X.K C m g) (l : fs.lookup m = none)
   (h : Q (.ref g, [.ref a]) s) : wpAny (model X.prog X.w) A (getMethod (.ref a) m pl) Q E s := by
 obtain ⟨mA, O, r, _, _, _⟩ := ins_get I.hok e
 have hn : mA m = none := RelO.none_of (by rw [← l]; exact r m)
 exact get_meth I.kIn O (c.get m) k.at_ k.fn hn h
theorem setattr_ok {y : V} {u : Value} {Q : Unit → Shared → Prop} (I : Inv X pins σ H s) (e : H a = some (.ins C dx fs)) (c : Cls X.K C) (n : NoAttr X.K C f) (hl : fs.length < 1000) (ry : RelV y u)
   (h : ∀ s', Inv X pins σ (upd H a (.ins C dx (putF f y fs))) s' → Q () s') : wpAny (model X.prog X.w) A (setAttr (.ref a) f u) Q E s := by
 obtain ⟨mA, O, r, wi, _, ho⟩ := ins_get I.hok e
 have hz : (fs.map (·.1)).length ≤ sizeLine := by rw [List.length_map, sizeLine_eq]; omega
 refine set_map I.kIn O c.sa c.po n.taker c.hd wi hz fun h' O' sb => h _ ?_
 have hd : ∃ o, h'.get? dx = some o := let ⟨o, _, _, e', _⟩ := O'.ns; ⟨o, e'⟩
 refine I.write (x := a) (e := dx) (by rw [e]; exact True.intro) (.inr ho) (fun b q hb z => (sb.2 b hb).trans z) hd ?_
 refine ⟨by rw [upd_ne O.ne]; exact ho, ?_, O.ne, O'.obj, _, O'.ns, fun g => ?_, fun g hg => ?_⟩
 · have := length_putF f y fs; omega
 · show RelO ((putF f y fs).lookup g) (if g = f then some u else mA g)
   rw [lookup_putF]
   by_cases q : g = f
   · rw [if_pos q, if_pos q]; exact ry
   · rw [if_neg q, if_neg q]; exact r g
 · by_cases q : g = f
   · rw [q]; exact (keys_putF f y fs).1
   · refine (keys_putF f y fs).2 g (wi g fun z => hg ?_)
     show (if g = f then some u else mA g) = none
     rw [if_neg q]; exact z
theorem Inv.made (I : Inv X pins σ H s) : Inv X pins σ (upd (upd H s.heap.objs.size (.own (s.heap.objs.size + 1))) (s.heap.objs.size + 1) (.ins C s.heap.objs.size []))
   { s with heap := (s.heap.push PySem.W.emptyDict).push (PySem.W.instObj C s.heap.objs.size) } := by
 have e1 : (s.heap.push PySem.W.emptyDict).get? s.heap.objs.size = some PySem.W.emptyDict := Heap.get?_push_size s.heap rfl
 have e2 : ((s.heap.push PySem.W.emptyDict).push (PySem.W.instObj C s.heap.objs.size)).get? (s.heap.objs.size + 1) = some (PySem.W.instObj C s.heap.objs.size) := by
   have := Heap.get?_push_size (s.heap.push PySem.W.emptyDict) (o := PySem.W.instObj C s.heap.objs.size) rfl
   rwa [Heap.size_push] at this
 have e3 : (s.heap.push PySem.W.emptyDict).Ns s.heap.objs.size (fun _ => none) := ⟨PySem.W.emptyDict, #[], _, e1, rfl, (fun e he => absurd he (by simp)), fun _ => rfl⟩
 have I1 := I.laid (a := s.heap.objs.size) (o := .own (s.heap.objs.size + 1)) (h' := s.heap.push PySem.W.emptyDict) (t' := s.toks) (fun b u q => Heap.get?_push_of_some _ q) (Nat.le_refl _) ⟨_, e1⟩
 refine I1.laid (a := s.heap.objs.size + 1) (o := .ins C s.heap.objs.size []) (t' := s.toks) (fun b u q => Heap.get?_push_of_some _ q) (Nat.le_of_eq (Heap.size_push _ _)) ?_
 have ne : s.heap.objs.size ≠ s.heap.objs.size + 1 := Nat.ne_of_lt (Nat.lt_succ_self _)
 refine ⟨by rw [upd_ne ne, upd_same], Nat.zero_le _, ne, e2, fun _ => none, (Heap.Ns1.of_empty e3).at fun o q => Heap.get?_push_of_some _ q, fun _ => True.intro, fun y hy => absurd rfl hy⟩
theorem attr_of {prog : Program} {w : World} {env : Env} {e : Expr} {f : Str} {pos : Pos} {s : Shared} {Q : Value → Shared → Prop} (hb : attributeBase e f env (eval e env) = eval e env)
   (h : wpAny (model prog w) A (eval e env) (fun o s₁ => wpAny (model prog w) A (getAttr o f true) Q E s₁) E s) : wpAny (model prog w) A (eval (.Attribute e f pos) env) Q E s :=
 Attribute_any_ h (by rw [arm_eval_Attribute, hb])
end
def tFld (K : PySem.W.Frag) (ta : TE) (f : Str) : TE := fun σ H Q => ta σ H fun x H1 => ∃ a C dx fs v, x = .ref a ∧ H1 a = some (.ins C dx fs) ∧ Cls K C ∧ NoAttr K C f ∧ fs.lookup f = some v ∧ Q v H1
def sFld (K : PySem.W.Frag) (ta tv : TE) (f : Str) : TS := fun D σ H => tv σ H fun y H1 => ta σ H1 fun x H2 => ∃ a C dx fs, x = .ref a ∧ H2 a = some (.ins C dx fs) ∧ Cls K C ∧ NoAttr K C f ∧ fs.length < 1000 ∧
 D.nx σ (upd H2 a (.ins C dx (putF f y fs)))
section
variable {X : Cx} {o e value : Expr} {f : Str} {pos pos' tpos : Pos} {ta tv : TE}
theorem pe_fld (he : PE X e ta) (hb : attributeBase e f X.env (eval e X.env) = eval e X.env) : PE X (.Attribute e f pos) (tFld X.K ta f) := by
 intro pins s σ H Q I h
 refine attr_of hb (thn (he pins s σ H _ I h) fun u s1 ⟨x, H1, I1, rx, a, C, dx, fs, v, ex, ea, c, n, l, q⟩ => ?_)
 subst ex
 obtain rfl : u = Value.ref a := rx
 exact getattr_ok I1 ea c n l fun u' s2 I2 ru => ⟨v, H1, I2, ru, q⟩
theorem ps_fld (ha : PE X o ta) (hv : PE X value tv) (hs : swapsWith value (some (.Attribute o f pos')) pos.line X.env = pure false) : PS X (.Assign [.Attribute o f pos'] value pos) (sFld X.K ta tv f) := by
 intro pins s σ H D I h
 refine plainObj_wpAny_Assign_Attribute (thn (hv pins s σ H _ I h) fun u s1 ⟨y, H1, I1, ry, q⟩ => thn (ha pins s1 σ H1 _ I1 q) fun ov s2 ⟨x, H2, I2, rx, a, C, dx, fs, ex, ea, c, n, l, q2⟩ => ?_) hs
 subst ex
 obtain rfl : ov = Value.ref a := rx
 exact setattr_ok I2 ea c n l ry fun s3 I3 => ⟨σ, _, I3, q2⟩
end
section
variable {X : Cx} {pins : List (Addr × Obj)} {σ : St} {H : Hp} {s : Shared} {A : Around} {E : Value → Shared → Prop} {Q : Value → Shared → Prop} {c : Value} {b : Bool}
inductive TyOf (K : PySem.W.Frag) (H : Hp) : V → Value → Prop where
 | non : TyOf K H .non (.type "NoneType")
 | bl (x : Bool) : TyOf K H (.bl x) (.type "bool")
 | int (i : Int) : TyOf K H (.int i) (.type "int")
 | str (x : Str) : TyOf K H (.str x) (.type "str")
 | flt (x : UInt64) : TyOf K H (.flt x) (.type "float")
 | lst {a : Addr} {xs : List V} (e : H a = some (.lst xs)) : TyOf K H (.ref a) (.type "list")
 | frz {a : Addr} {o : Obj} {xs : List V} (e : H a = some (.frz o (.lst xs))) : TyOf K H (.ref a) (.type "list")
 | tup {a : Addr} {xs : List V} (e : H a = some (.tup xs)) : TyOf K H (.ref a) (.type "tuple")
 | dK {a : Addr} {kvs : List (Key × V)} (e : H a = some (.dK kvs)) : TyOf K H (.ref a) (.type "dict")
 | dT {a : Addr} {kvs : List (List Key × V)} (e : H a = some (.dT kvs)) : TyOf K H (.ref a) (.type "dict")
 | ins {a C dx : Addr} {fs : List (Str × V)} (e : H a = some (.ins C dx fs)) (cl : Cls K C) (ha : PySem.W.findIn K (.ref C) "__class__" = some (some (.builtin "object.__class__")))
     (hn : PySem.W.specialIn K (.builtin "object.__class__") "__get__" = some (some (.builtin "getset_descriptor.__get__"))) (htk : PySem.W.takesIn K (.builtin "object.__class__") = some true)
     (hm : PySem.W.mroIn K C (.type "object") = some true) : TyOf K H (.ref a) (.ref C)
theorem isinst_ok {x : V} {u t : Value} (I : Inv X pins σ H s) (rx : RelV x u) (ty : TyOf X.K H x t) (e : PySem.W.kitOne X.K t c = some b) (h : ∀ tk, Q (.bool b) { s with toks := tk }) :
   wpAny (model X.prog X.w) A (call (.builtin "isinstance") [u, c]) Q E s := by
 cases ty with
 | non => cases (show u = Value.none from rx); exact PySem.W.kia_one PySem.W.kitx_none I.kIn True.intro e (fun z => nomatch z) h
 | bl y => cases (show u = Value.bool y from rx); exact PySem.W.kia_one PySem.W.kitx_bool I.kIn True.intro e (fun z => nomatch z) h
 | int i => obtain ⟨t, q⟩ := (show ∃ t, u = Value.int i t from rx); cases q; exact PySem.W.kia_one PySem.W.kitx_int I.kIn True.intro e (fun z => nomatch z) h
 | str y => obtain ⟨t, q⟩ := (show ∃ t, u = Value.str y t from rx); cases q; exact PySem.W.kia_one PySem.W.kitx_str I.kIn True.intro e (fun z => nomatch z) h
 | flt y => obtain ⟨t, q⟩ := (show ∃ t, u = Value.float y t from rx); cases q; exact PySem.W.kia_one PySem.W.kitx_float I.kIn True.intro e (fun z => nomatch z) h
 | @lst a xs ea =>
   cases (show u = Value.ref a from rx)
   obtain ⟨_, _, n, _, h1⟩ := (show ObjOk X.prog X.w H s.heap a (.lst xs) from I.hok a _ ea)
   exact PySem.W.kia_one PySem.W.kitx_list I.kIn ⟨_, h1, rfl⟩ e (fun z => nomatch z) h
 | @frz a ob xs ea =>
   cases (show u = Value.ref a from rx)
   obtain ⟨_, _, _, n, _, h1⟩ := (show ObjOk X.prog X.w H s.heap a (.frz ob (.lst xs)) from I.hok a _ ea)
   exact PySem.W.kia_one PySem.W.kitx_list I.kIn ⟨_, h1, rfl⟩ e (fun z => nomatch z) h
 | @tup a xs ea =>
   cases (show u = Value.ref a from rx)
   obtain ⟨_, _, _, p⟩ := (show ObjOk X.prog X.w H s.heap a (.tup xs) from I.hok a _ ea)
   obtain ⟨o, h1, h2, _⟩ := p
   exact PySem.W.kia_one PySem.W.kitx_tuple I.kIn ⟨o, h1, h2⟩ e (fun z => nomatch z) h
 | @dK a kvs ea =>
   cases (show u = Value.ref a from rx)
   obtain ⟨_, _, vs, _, p⟩ := (show ObjOk X.prog X.w H s.heap a (.dK kvs) from I.hok a _ ea)
   obtain ⟨o, es, ep, h1, h2, _⟩ := p
   exact PySem.W.kia_one PySem.W.kitx_dict I.kIn ⟨o, h1, h2.1⟩ e (fun z => nomatch z) h
 | @dT a kvs ea =>
   cases (show u = Value.ref a from rx)
   obtain ⟨_, _, xs, _, o, es, ep, h1, h2, _⟩ := (show ObjOk X.prog X.w H s.heap a (.dT kvs) from I.hok a _ ea)
   exact PySem.W.kia_one PySem.W.kitx_dict I.kIn ⟨o, h1, h2.1⟩ e (fun z => nomatch z) h
 | @ins a C dx fs ea cl ha hn htk hm =>
   cases (show u = Value.ref a from rx)
   obtain ⟨mA, O, _⟩ := ins_get I.hok ea
   obtain ⟨od, J, _⟩ := O.look
   exact PySem.W.kia_one (PySem.W.kitx_own (cl.get _) cl.hd ha hn htk hm) I.kIn J e (fun z => nomatch z) h
end
end L2
namespace L2
open PySem PySem.Spec PyProof.Rows
structure Room (cm : Bool) (k : Nat) (A : Around) : Prop where
 hd : cm = true → A.handled = none
 dp : A.depth + 3 * k + 5 < recursionLimit
 un : A.units + 16 * k + 200 < cLine
theorem Room.mono {cm : Bool} {j k : Nat} {A : Around} (r : Room cm k A) (h : j ≤ k) : Room cm j A := ⟨r.hd, by have := r.dp; omega, by have := r.un; omega⟩
theorem Room.deeper {cm : Bool} {k : Nat} {A : Around} (r : Room cm (k + 1) A) (env : Env) : Room cm k (A.deeper env) :=
 ⟨r.hd, by have := r.dp; show A.depth + 1 + 3 * k + 5 < _; omega, by have := r.un; show A.units + 3 + 16 * k + 200 < _; omega⟩
theorem Room.in1 {cm : Bool} {k : Nat} {A : Around} (r : Room cm (k + 1) A) : Room cm k A.in1 :=
 ⟨r.hd, by have := r.dp; show A.depth + 3 * k + 5 < _; omega, by have := r.un; show A.units + 1 + 16 * k + 200 < _; omega⟩
theorem make_depth {A : Around} {C : Addr} {us : List Value} {kw : List (Str × Value)} : (A.under (.builtin "type.__call__" ⟨.ref C :: us, kw⟩)).depth = A.depth + 1 := by
 first | rfl | simp [Around.under, Code.weight, Code.isCreation, Code.isGuard, Code.isCaller, Code.frames, Code.isFrame, guardIds]
theorem make_units {A : Around} {C : Addr} {us : List Value} {kw : List (Str × Value)} : (A.under (.builtin "type.__call__" ⟨.ref C :: us, kw⟩)).units = A.units + 1 := by
 first | rfl | simp [Around.under, Code.cUnits, Code.frames, Code.isFrame]
theorem Room.make {cm : Bool} {k : Nat} {A : Around} (r : Room cm (k + 1) A) (C : Addr) (us : List Value) (kw : List (Str × Value)) : Room cm k (A.under (.builtin "type.__call__" ⟨.ref C :: us, kw⟩)) :=
 ⟨r.hd, by have := r.dp; rw [make_depth]; omega, by have := r.un; rw [make_units]; omega⟩
theorem Room.depth {cm : Bool} {k : Nat} {A : Around} (r : Room cm k A) : A.depth < recursionLimit := by have := r.dp; omega
theorem Room.units {cm : Bool} {k : Nat} {A : Around} (r : Room cm k A) : A.units + 64 < cLine := by have := r.un; omega
def tNil : TA := fun _ H Q => Q [] H
def tCons (ta : TE) (tr : TA) : TA := fun σ H Q => ta σ H fun x H1 => tr σ H1 fun xs H2 => Q (x :: xs) H2
section
variable {X : Cx} {e : Expr} {es : List Expr} {te : TE} {t : TA} {pos : Pos}
theorem pa_nil : PA X [] tNil := fun _ _ _ _ H Q I h => Calls.spliced_nil ⟨[], H, I, .nil, h⟩
theorem pa_cons (ha : PE X e te) (hr : PA X es t) (hs : starEach (e :: es) X.env = (false, eval e X.env) :: starEach es X.env := by rfl) : PA X (e :: es) (tCons te t) := by
 intro pos pins s σ H Q I h
 rw [hs]
 show wpAny _ _ (spliced ((false, eval e X.env) :: backTo pos (starEach es X.env))) _ _ s
 refine Calls.spliced_cons (thn (ha pins s σ H _ I h) fun u s1 ⟨x, H1, I1, r1, q1⟩ => ?_)
 exact thn (hr pos pins s1 σ H1 _ I1 q1) fun us s2 ⟨xs, H2, I2, r2, q2⟩ => ⟨x :: xs, H2, I2, .cons r1 r2, q2⟩
def tTup (t : TA) : TE := fun σ H Q => t σ H fun xs H1 => xs.length ≤ sizeLine ∧ ∀ p, H1 p = none → Q (.ref p) (upd H1 p (.tup xs))
def tLst (t : TA) : TE := fun σ H Q => t σ H fun xs H1 => xs.length ≤ sizeLine ∧ ∀ p, H1 p = none → Q (.ref p) (upd H1 p (.lst xs))
theorem pe_tup {x1} (h : PA X es t) : PE X (.Tuple es x1 pos) (tTup t) := by
 intro pins s σ H Q I hq
 refine wpAny_Tuple_spliced (thn (h pos pins s σ H _ I hq) fun us s1 ⟨xs, H1, I1, r, z, q⟩ => ⟨by rw [← r.length]; exact z, ?_⟩)
 have hf : H1 s1.heap.objs.size = none := I1.hok.fresh (Nat.le_refl _)
 refine ⟨.ref s1.heap.objs.size, upd H1 s1.heap.objs.size (.tup xs), I1.laid (t' := s1.toks) (fun b u e => Heap.get?_push_of_some _ e) (Nat.le_refl _) ?_, rfl, q _ hf⟩
 exact ⟨z, us, r, ⟨_, Heap.get?_push_size _ rfl, rfl, _, rfl⟩⟩
theorem pe_lst (h : PA X es t) : PE X (.List es pos) (tLst t) := by
 intro pins s σ H Q I hq
 refine wpAny_List_spliced (thn (h pos pins s σ H _ I hq) fun us s1 ⟨xs, H1, I1, r, z, q⟩ => ⟨by rw [← r.length]; exact z, ?_⟩)
 have hf : H1 s1.heap.objs.size = none := I1.hok.fresh (Nat.le_refl _)
 refine ⟨.ref s1.heap.objs.size, upd H1 s1.heap.objs.size (.lst xs), I1.laid (t' := s1.toks) (fun b u e => Heap.get?_push_of_some _ e) (Nat.le_refl _) ?_, rfl, q _ hf⟩
 exact ⟨z, us, 0, r, Heap.get?_push_size _ rfl⟩
end
abbrev Sp := List V → Hp → VK → XK → Prop
abbrev CXT := List Env → Hp → Shared → XK → Value → Shared → Prop
structure Env0 (P : Program) (w : World) (K : PySem.W.Frag) (mg : Str → Option Value) (base : Heap) (A : Around) (outer : List Env) (s : Shared) (H : Hp) : Prop where
 frames : A.frames = some outer
 mod : Mod K mg base
 bs : ∀ b o, base.get? b = some o → s.heap.get? b = some o ∧ H b = none
 bsz : base.objs.size ≤ s.heap.objs.size
 funs : s.heap.FunFrames base outer
 frf : ∀ b ∈ frs outer, H b = none
 hok : HOk P w H s.heap
 bare : AllBare s.gens
def CE (outer : List Env) (P : Program) (w : World) (H : Hp) (s : Shared) (Q : VK) (u : Value) (s' : Shared) : Prop :=
 ∃ v H', s'.os = s.os ∧ AllBare s'.gens ∧ Un (frs outer) [] H H' s.heap s'.heap ∧ HOk P w H' s'.heap ∧ RelV v u ∧ Q v H'
def CR (CX : CXT) (outer : List Env) (P : Program) (w : World) (H : Hp) (s : Shared) (Q : VK) (E : XK) (r : Result) (s' : Shared) : Prop :=
 match r with
 | .ok (.ret u) => CE outer P w H s Q u s'
 | .ok _ => False
 | .error e => CX outer H s E e s'
structure FnOk (P : Program) (w : World) (K : PySem.W.Frag) (mg : Str → Option Value) (base : Heap) (CX : CXT) (cm : Bool) (k : Nat) (f : Addr) (fd : FuncData) (ps : List Str) (sp : Sp) : Prop where
 len : ∀ vs H Q E, sp vs H Q E → vs.length = ps.length
 run : ∀ (A : Around) (outer : List Env) (s : Shared) (H : Hp) (args : Args) (us : List Value) (vs : List V) (Q : VK) (E : XK), Room cm k A → Env0 P w K mg base A outer s H → BindsTo s fd args (ps.zip us) → Vals vs us → sp vs H Q E →
   codeAny (model P w) A (.call (.ref f) args) (CR CX outer P w H s Q E) s
theorem FnOk.mono {cm : Bool} {P : Program} {w : World} {K : PySem.W.Frag} {mg : Str → Option Value} {base : Heap} {CX : CXT} {j k : Nat} {f : Addr} {fd : FuncData} {ps : List Str} {sp : Sp} (F : FnOk P w K mg base CX cm j f fd ps sp) (h : j ≤ k) :
   FnOk P w K mg base CX cm k f fd ps sp := ⟨F.len, fun A outer s H args us vs Q E hr => F.run A outer s H args us vs Q E (hr.mono h)⟩
theorem FnOk.imp {cm : Bool} {P : Program} {w : World} {K : PySem.W.Frag} {mg : Str → Option Value} {base : Heap} {CX : CXT} {k : Nat} {f : Addr} {fd : FuncData} {ps : List Str} {sp sp' : Sp} (F : FnOk P w K mg base CX cm k f fd ps sp)
   (h : ∀ vs H Q E, sp' vs H Q E → sp vs H Q E) : FnOk P w K mg base CX cm k f fd ps sp' :=
 ⟨fun vs H Q E q => F.len vs H Q E (h _ _ _ _ q), fun A outer s H args us vs Q E hr he hb hv hs => F.run A outer s H args us vs Q E hr he hb hv (h _ _ _ _ hs)⟩
theorem Env0.make {P : Program} {w : World} {K : PySem.W.Frag} {mg : Str → Option Value} {base : Heap} {A : Around} {outer : List Env} {s : Shared} {H : Hp} (e : Env0 P w K mg base A outer s H) (C : Addr) (us : List Value) (kw : List (Str × Value)) :
   Env0 P w K mg base (A.under (.builtin "type.__call__" ⟨.ref C :: us, kw⟩)) outer s H := ⟨by first | exact e.frames | (simpa [Around.under, Code.envs, Code.isFrame, pushEnvs] using e.frames), e.mod, e.bs, e.bsz, e.funs, e.frf, e.hok, e.bare⟩
theorem Env0.in1 {P : Program} {w : World} {K : PySem.W.Frag} {mg : Str → Option Value} {base : Heap} {A : Around} {outer : List Env} {s : Shared} {H : Hp} (e : Env0 P w K mg base A outer s H) :
   Env0 P w K mg base A.in1 outer s H := ⟨e.frames, e.mod, e.bs, e.bsz, e.funs, e.frf, e.hok, e.bare⟩
section
variable {X : Cx} {pins : List (Addr × Obj)} {σ : St} {H : Hp} {s s' : Shared}
theorem Inv.env0 (I : Inv X pins σ H s) : Env0 X.prog X.w X.K X.mg X.base X.A X.stack s H :=
 ⟨I.ok.frames, I.ok.mod, I.bs, Nat.le_trans I.ok.bsz I.sz, I.stack, I.stkFree, I.hok, I.bare⟩
theorem Inv.after {Q : VK} {u : Value} (I : Inv X pins σ H s) (h : CE X.stack X.prog X.w H s Q u s') : EP X pins σ Q u s' := by
 obtain ⟨v, H', os, bare, un, hok, r, q⟩ := h
 obtain ⟨hh, g, d, t, os'⟩ := s'
 obtain rfl : os' = s.os := os
 exact ⟨v, H', I.call (h' := hh) (g' := g) (d' := d) (t' := t) (ch := []) un hok bare (fun b z => absurd z (by simp)), r, q⟩
end
def tCall (sp : Sp) (dvs : List V) (E : XK) (t : TA) : TE := fun σ H Q => t σ H fun vs H1 => sp (vs ++ dvs) H1 Q E
def tMeth (C : Addr) (m : Str) (sp : Sp) (dvs : List V) (E : XK) (ta : TE) (t : TA) : TE := fun σ H Q => ta σ H fun x H1 => ∃ a dx fs, x = .ref a ∧ H1 a = some (.ins C dx fs) ∧ fs.lookup m = none ∧
 t σ H1 fun vs H2 => sp (x :: (vs ++ dvs)) H2 Q E
def tMake (C : Addr) (sp : Sp) (dvs : List V) (E : XK) (t : TA) : TE := fun σ H Q => t σ H fun vs H1 => ∀ x dx, H1 x = none → H1 dx = none → dx ≠ x →
 sp (.ref x :: (vs ++ dvs)) (upd (upd H1 dx (.own x)) x (.ins C dx [])) (fun v H2 => v = .non ∧ Q (.ref x) H2) E
def Binds (K : PySem.W.Frag) (fd : FuncData) (ps : List Str) (ds : List Value) : Prop :=
 ∀ (s : Shared) (us : List Value), K.In s.heap → (us ++ ds).length = ps.length → BindsTo s fd ⟨us, []⟩ (ps.zip (us ++ ds))
theorem Binds.all {K : PySem.W.Frag} {fd : FuncData} {ps : List Str} (h : ∀ us : List Value, us.length = ps.length → bindArgs fd ⟨us, []⟩ = pure (ps.zip us)) : Binds K fd ps [] := fun s us _ hl => by
 rw [List.append_nil] at hl ⊢
 exact .of_eq (h us hl)
def Passes (CX : CXT) (X : Cx) (E : XK) : Prop := ∀ (pins : List (Addr × Obj)) (σ : St) (H : Hp) (s : Shared) (e : Value) (s' : Shared), Inv X pins σ H s → CX X.stack H s E e s' → X.xe e s'
section
variable {X : Cx} {CX : CXT} {cm : Bool} {k : Nat} {f C : Addr} {fd : FuncData} {ps : List Str} {sp : Sp} {dvs : List V} {ds : List Value} {E : XK} {x m : Str} {p pos apos : Pos} {e o : Expr} {es : List Expr} {ta : TE} {t : TA}
theorem run_fn {pins : List (Addr × Obj)} {σ : St} {H : Hp} {s : Shared} {Q : VK} {us : List Value} {vs : List V} (F : FnOk X.prog X.w X.K X.mg X.base CX cm k f fd ps sp) (hr : Room cm k X.A) (hb : Binds X.K fd ps ds) (hd : Vals dvs ds) (hx : Passes CX X E)
   (I : Inv X pins σ H s) (r : Vals vs us) (h : sp (vs ++ dvs) H Q E) : wpAny (model X.prog X.w) X.A (call (.ref f) us) (EP X pins σ Q) X.xe s := by
 have r2 : Vals (vs ++ dvs) (us ++ ds) := r.append hd
 have hl : (us ++ ds).length = ps.length := by rw [← r2.length]; exact F.len _ _ _ _ h
 refine wpAny_call (codeAny_mono (F.run X.A X.stack s H ⟨us, []⟩ (us ++ ds) (vs ++ dvs) Q E hr I.env0 (hb s us I.kIn hl) r2 h) fun r s' hq => ?_)
 cases r with
 | error e => exact hx pins σ H s e s' I hq
 | ok fl =>
   cases fl with
   | ret u => exact I.after hq
   | next => exact False.elim hq
   | brk => exact False.elim hq
   | cont => exact False.elim hq
theorem pe_call (F : FnOk X.prog X.w X.K X.mg X.base CX cm k f fd ps sp) (hr : Room cm k X.A) (hg : Gl X x) (hm : X.mg x = some (.ref f)) (hk : PySem.W.keepIn X.K (.ref f) = true) (hb : Binds X.K fd ps ds) (hd : Vals dvs ds) (hx : Passes CX X E)
   (ha : PA X (e :: es) t) (hdb : (x == ("__debug__" : Str)) = false := by decide) (he : starEach (e :: es) X.env = (false, eval e X.env) :: starEach es X.env := by rfl) (hpl : (backTo pos (starEach es X.env)).any (·.1) = false := by rfl) :
   PE X (.Call (.Name x p) (e :: es) [] pos) (tCall sp dvs E t) := by
 intro pins s σ H Q I h
 refine wpAny_Call_Name_kw (ld_glob I hg hm ?_ hdb)
 refine PySem.W.callWith_K (h₀ := X.base) I.ok.mod.kin hk (thn (ha pos pins s σ H _ I h) fun us s1 ⟨vs, H1, I1, r, q⟩ => ⟨I1.kIn, ?_⟩) he hpl
 exact run_fn F hr hb hd hx I1 r q
theorem pe_meth {pl : Sem Bool} (he : PE X o ta) (c : Cls X.K C) (hm : Meth X.K C m f) (F : FnOk X.prog X.w X.K X.mg X.base CX cm k f fd ps sp) (hr : Room cm k X.A) (hb : Binds X.K fd ps ds) (hd : Vals dvs ds) (hx : Passes CX X E) (ha : PA X (e :: es) t)
   (hst : starEach (e :: es) X.env = (false, eval e X.env) :: starEach es X.env := by rfl) (hpl : (backTo pos (starEach es X.env)).any (·.1) = false := by rfl)
   (ht : eval (.Call (.Attribute o m apos) (e :: es) [] pos) X.env = (do
     let ov ← eval o X.env
     standAt apos.atName
     let (f, first) ← holding [ov] (getMethod ov m pl)
     callWith pos f first (backTo pos (starEach (e :: es) X.env)) (backToKw pos (keywordEach [] X.env))) := by rfl) :
   PE X (.Call (.Attribute o m apos) (e :: es) [] pos) (tMeth C m sp dvs E ta t) := by
 intro pins s σ H Q I h
 refine PySem.W.methodCall_KW (pl := pl) (thn (he pins s σ H _ I h) fun u s1 ⟨x, H1, I1, rx, a, dx, fs, ex, ea, l, q⟩ => ?_) ht
 subst ex
 obtain rfl : u = Value.ref a := rx
 refine getmeth_ok I1 ea c hm l ?_
 refine PySem.W.callWith_K (first := [.ref a]) (h₀ := X.base) I.ok.mod.kin hm.kp (thn (ha pos pins s1 σ H1 _ I1 q) fun us s2 ⟨vs, H2, I2, r, q2⟩ => ⟨I2.kIn, ?_⟩) hst hpl
 exact run_fn (us := .ref a :: us) (vs := .ref a :: vs) F hr hb hd hx I2 (.cons rfl r) q2
theorem pe_meth0 {pl : Sem Bool} (he : PE X o ta) (c : Cls X.K C) (hm : Meth X.K C m f) (F : FnOk X.prog X.w X.K X.mg X.base CX cm k f fd ps sp) (hr : Room cm k X.A) (hb : Binds X.K fd ps ds) (hd : Vals dvs ds) (hx : Passes CX X E)
   (ht : eval (.Call (.Attribute o m apos) [] [] pos) X.env = (do
     let ov ← eval o X.env
     standAt apos.atName
     let (f, first) ← holding [ov] (getMethod ov m pl)
     callWith pos f first (backTo pos (starEach [] X.env)) (backToKw pos (keywordEach [] X.env))) := by rfl) :
   PE X (.Call (.Attribute o m apos) [] [] pos) (tMeth C m sp dvs E ta tNil) := by
 intro pins s σ H Q I h
 refine PySem.W.methodCall_KW (pl := pl) (thn (he pins s σ H _ I h) fun u s1 ⟨x, H1, I1, rx, a, dx, fs, ex, ea, l, q⟩ => ?_) ht
 subst ex
 obtain rfl : u = Value.ref a := rx
 refine getmeth_ok I1 ea c hm l ?_
 exact PySem.W.callWith_K0 (first := [.ref a]) I1.kIn hm.kp (run_fn (us := [.ref a]) (vs := [.ref a]) F hr hb hd hx I1 (.cons rfl .nil) q)
structure Mk (K : PySem.W.Frag) (C f : Addr) : Prop where
 makes : PySem.W.makesIn K C = true
 init : PySem.W.findIn K (.ref C) "__init__" = some (some (.ref f))
 fn : PySem.W.isFn K (.ref f) = true
 kp : PySem.W.keepIn K (.ref C) = true
theorem run_make {pins : List (Addr × Obj)} {σ : St} {H : Hp} {s : Shared} {Q : VK} {us : List Value} {vs : List V} (M : Mk X.K C f) (F : FnOk X.prog X.w X.K X.mg X.base CX cm k f fd ps sp) (hr : Room cm (k + 1) X.A) (hb : Binds X.K fd ps ds) (hd : Vals dvs ds)
   (hx : Passes CX X E) (I : Inv X pins σ H s) (r : Vals vs us)
   (h : ∀ x dx, H x = none → H dx = none → dx ≠ x → sp (.ref x :: (vs ++ dvs)) (upd (upd H dx (.own x)) x (.ins C dx [])) (fun v H2 => v = .non ∧ Q (.ref x) H2) E) :
   wpAny (model X.prog X.w) X.A (call (.ref C) us) (EP X pins σ Q) X.xe s := by
 have hq := h (s.heap.objs.size + 1) s.heap.objs.size (I.hok.fresh (Nat.le_succ _)) (I.hok.fresh (Nat.le_refl _)) (Nat.ne_of_lt (Nat.lt_succ_self _))
 have I2 := Inv.made (C := C) I
 have r2 : Vals (V.ref (s.heap.objs.size + 1) :: (vs ++ dvs)) (Value.ref (s.heap.objs.size + 1) :: (us ++ ds)) := .cons rfl (r.append hd)
 have hl : (Value.ref (s.heap.objs.size + 1) :: us ++ ds).length = ps.length := by
   have e := r2.length
   rw [F.len _ _ _ _ hq] at e
   exact e.symm
 refine wpAny_call (make_map (f := f) I.kIn M.makes M.init (beq_iff_eq.mp M.fn) (codeAny_mono (F.run _ X.stack _ _ ⟨Value.ref (s.heap.objs.size + 1) :: us, []⟩ (Value.ref (s.heap.objs.size + 1) :: (us ++ ds)) _ _ E (hr.make C us [])
   (I2.env0.make C us []) (hb _ (Value.ref (s.heap.objs.size + 1) :: us) I2.kIn hl) r2 hq) fun r s' hq' => ?_))
 cases r with
 | error e => exact hx pins σ _ _ e s' I2 hq'
 | ok fl =>
   cases fl with
   | ret u =>
     obtain ⟨v, H', I3, rv, ev, q3⟩ := I2.after hq'
     subst ev
     exact ⟨rv, ⟨V.ref (s.heap.objs.size + 1), H', I3, rfl, q3⟩⟩
   | next => exact False.elim hq'
   | brk => exact False.elim hq'
   | cont => exact False.elim hq'
theorem pe_make (M : Mk X.K C f) (F : FnOk X.prog X.w X.K X.mg X.base CX cm k f fd ps sp) (hr : Room cm (k + 1) X.A) (hg : Gl X x) (hm : X.mg x = some (.ref C)) (hb : Binds X.K fd ps ds) (hd : Vals dvs ds) (hx : Passes CX X E)
   (ha : PA X (e :: es) t) (hdb : (x == ("__debug__" : Str)) = false := by decide) (he : starEach (e :: es) X.env = (false, eval e X.env) :: starEach es X.env := by rfl) (hpl : (backTo pos (starEach es X.env)).any (·.1) = false := by rfl) :
   PE X (.Call (.Name x p) (e :: es) [] pos) (tMake C sp dvs E t) := by
 intro pins s σ H Q I h
 refine wpAny_Call_Name_kw (ld_glob I hg hm ?_ hdb)
 refine PySem.W.callWith_K (h₀ := X.base) I.ok.mod.kin M.kp (thn (ha pos pins s σ H _ I h) fun us s1 ⟨vs, H1, I1, r, q⟩ => ⟨I1.kIn, ?_⟩) he hpl
 exact run_make M F hr hb hd hx I1 r q
end
section
variable {X : Cx} {CX : CXT} {cm : Bool} {k : Nat} {f C : Addr} {fd : FuncData} {ps ks : List Str} {sp : Sp} {E : XK} {x m : Str} {p pos apos kpos : Pos} {e o : Expr} {es : List Expr} {kws : List Keyword} {te ta : TE} {t tk : TA} {nm : Option Str}
variable {g : List Value → List Value → List Value} {gV : List V → List V → List V}
end
structure FnScope (N P : List Str) (sc : Scope) : Prop where
 kind : sc.kind = .function
 co : sc.isCoroutine = false
 gen : sc.isGenerator = false
 nd : N.Nodup
 pre : N.take P.length = P
 par : ∀ x ∈ P, sc.names.lookup x = some .local ∨ sc.names.lookup x = some .cell
 nofree : ∀ y ∈ sc.names, y.2 ≠ .free
theorem bindL_out {kindOf : Str → Option NameKind} {x : Str} : ∀ {binds : List (Str × Value)} {m : Str → Option Value}, (∀ v, (x, v) ∉ binds) → bindL kindOf binds m x = m x
 | [], _, _ => rfl
 | (n, v) :: r, m, h => by
   unfold bindL
   rw [bindL_out fun w hw => h w (List.mem_cons_of_mem _ hw)]
   split
   · have : x ≠ n := by rintro rfl; exact h v List.mem_cons_self
     simp [this]
   · rfl
theorem bindC_out {kindOf : Str → Option NameKind} {x : Str} : ∀ {binds : List (Str × Value)} {m : Str → Option Value}, (∀ v, (x, v) ∉ binds) → bindC kindOf binds m x = m x
 | [], _, _ => rfl
 | (n, v) :: r, m, h => by
   unfold bindC
   rw [bindC_out fun w hw => h w (List.mem_cons_of_mem _ hw)]
   split
   · rfl
   · have : x ≠ n := by rintro rfl; exact h v List.mem_cons_self
     simp [this]
theorem bindL_get {kindOf : Str → Option NameKind} {x : Str} {v : Value} : ∀ {P : List Str} {vs : List Value} {i : Nat} {m : Str → Option Value}, P.Nodup → P[i]? = some x → vs[i]? = some v → kindOf x = some .local →
   bindL kindOf (P.zip vs) m x = some v
 | [], _, _, _, _, h, _, _ => by simp at h
 | _ :: _, [], _, _, _, _, h, _ => by simp at h
 | p :: P, w :: vs, 0, m, nd, h1, h2, hk => by
   simp at h1 h2; subst h1; subst h2
   show bindL kindOf ((p, w) :: P.zip vs) m p = _
   unfold bindL
   rw [bindL_out fun v hv => (List.nodup_cons.mp nd).1 (List.of_mem_zip hv).1, if_pos hk]
   simp
 | p :: P, w :: vs, i + 1, m, nd, h1, h2, hk => by
   show bindL kindOf ((p, w) :: P.zip vs) m x = _
   unfold bindL
   exact bindL_get (i := i) (List.nodup_cons.mp nd).2 (by simpa using h1) (by simpa using h2) hk
theorem bindC_get {kindOf : Str → Option NameKind} {x : Str} {v : Value} : ∀ {P : List Str} {vs : List Value} {i : Nat} {m : Str → Option Value}, P.Nodup → P[i]? = some x → vs[i]? = some v → kindOf x ≠ some .local →
   bindC kindOf (P.zip vs) m x = some v
 | [], _, _, _, _, h, _, _ => by simp at h
 | _ :: _, [], _, _, _, _, h, _ => by simp at h
 | p :: P, w :: vs, 0, m, nd, h1, h2, hk => by
   simp at h1 h2; subst h1; subst h2
   show bindC kindOf ((p, w) :: P.zip vs) m p = _
   unfold bindC
   rw [bindC_out fun v hv => (List.nodup_cons.mp nd).1 (List.of_mem_zip hv).1, if_neg hk]
   simp
 | p :: P, w :: vs, i + 1, m, nd, h1, h2, hk => by
   show bindC kindOf ((p, w) :: P.zip vs) m x = _
   unfold bindC
   exact bindC_get (i := i) (List.nodup_cons.mp nd).2 (by simpa using h1) (by simpa using h2) hk
def start (N : List Str) (vs : List V) : St := vs.map some ++ List.replicate (N.length - vs.length) none
def cxOf (CX : CXT) (cm : Bool) (P : Program) (w : World) (K : PySem.W.Frag) (mg : Str → Option Value) (base : Heap) (N : List Str) (qual : Str) (scope : Scope) (f : Addr) (cd : Value) (A : Around) (outer : List Env) (s : Shared) (H : Hp) (E : XK) : Cx where
 prog := P
 w := w
 K := K
 mg := mg
 base := base
 A := A.deeper (envOfC qual scope s.heap.objs.size f cd)
 N := N
 s₀ := s
 H₀ := H
 env := envOfC qual scope s.heap.objs.size f cd
 outer := outer
 stack := envOfC qual scope s.heap.objs.size f cd :: outer
 ex := []
 calm := cm
 fn := fun _ => true
 pn := []
 xe := fun e s' => wpAny (model P w) (A.deeper (envOfC qual scope s.heap.objs.size f cd)) (leaving (envOfC qual scope s.heap.objs.size f cd) e) (fun _ s'' => CX outer H s E e s'') (fun e' s'' => CX outer H s E e' s'') s'
theorem cell_has {sc : Scope} {n : Nat} {x : Str} (h : sc.names.lookup x = some .cell) : ∃ c, (cellsFrom n sc.names []).lookup x = some c := by
 have q := PySem.W.cellsFrom_some sc.names n [] (.inl h)
 exact Option.isSome_iff_exists.mp q
theorem inv_start {CX : CXT} {cm : Bool} {P : Program} {w : World} {K : PySem.W.Frag} {mg : Str → Option Value} {base : Heap} {N ps : List Str} {qual : Str} {scope : Scope} {f : Addr} {cd : Value} {A : Around} {outer : List Env} {s s1 : Shared} {H : Hp} {E : XK} {us : List Value} {vs : List V}
   (S : FnScope N ps scope) (hd : cm = true → A.handled = none) (e0 : Env0 P w K mg base A outer s H) (hl : vs.length = ps.length) (r : Vals vs us)
   (x : InCallC s s.heap.objs.size (bindL (envOfC qual scope s.heap.objs.size f cd).kindOf (ps.zip us) fun _ => none) (cellsFrom (s.heap.objs.size + 1) scope.names []) (bindC (envOfC qual scope s.heap.objs.size f cd).kindOf (ps.zip us) fun _ => none) s1) :
   Inv (cxOf CX cm P w K mg base N qual scope f cd A outer s H E) [] (start N vs) H s1 := by
 have hpl : ps.length ≤ N.length := by have := congrArg List.length S.pre; rw [List.length_take] at this; omega
 obtain ⟨h1, tk, rfl, hk⟩ := x.done
 have noA : ∀ b : Addr, b ∉ (cxOf CX cm P w K mg base N qual scope f cd A outer s H E).ex := fun b z => absurd (show b ∈ ([] : List Addr) from z) (by simp)
 refine ⟨⟨e0.mod, S.kind, rfl, rfl, Nat.le_refl _, fun y z c h1 h2 => ?_, fun y hy => ?_, fun y c _ h => ?_, hd, Around.frames_deeper e0.frames, .inr ⟨rfl, rfl⟩, fun b z => absurd z (noA b), e0.bs, e0.bsz, fun b _ _ => noA b, fun b z => absurd z (noA b), e0.funs, e0.frf⟩,
   rfl, e0.bare, Un.kept hk, ⟨_, x.toInCall.ns, fun i y v h1 h2 h3 => ?_⟩, fun y c h => ⟨_, x.cell y c h⟩, e0.hok.fresh (Nat.le_refl _), fun y c h => ?_, fun p hp => absurd (show p ∈ ([] : List (Addr × Obj)) from hp) (by simp), e0.hok.kept hk, ?_⟩
 · exact name_of_addr x.apart (PySem.mem_of_lookup h1) (PySem.mem_of_lookup h2)
 · have hy : scope.names.lookup y = some .cell ∨ scope.names.lookup y = some .free := hy
   rcases hy with hy | hy
   · exact cell_has hy
   · exact absurd rfl (S.nofree _ (PySem.mem_of_lookup hy))
 · exact Nat.le_of_lt (x.above y c (PySem.mem_of_lookup h))
 · have hi : i < vs.length := by
     unfold start at h2
     by_cases hi : i < vs.length
     · exact hi
     · rw [List.getElem?_append_right (by simpa using hi)] at h2
       rw [List.getElem?_replicate] at h2
       split at h2 <;> cases h2
   have ha : vs[i]? = some v := by
     unfold start at h2
     rw [List.getElem?_append_left (by simpa using hi), List.getElem?_map] at h2
     cases e : vs[i]? with
     | none => rw [e] at h2; cases h2
     | some a => rw [e] at h2; cases h2; rfl
   obtain ⟨u, hu, rv⟩ := r.get ha
   have hp : ps[i]? = some y := by
     rw [← S.pre, List.getElem?_take_of_lt (by omega)]; exact h1
   have ndP : ps.Nodup := by rw [← S.pre]; exact S.nd.sublist (List.take_sublist _ _)
   refine ⟨u, rv, ?_⟩
   rcases S.par y (List.mem_of_getElem? hp) with k | k
   · exact .inl ⟨k, bindL_get ndP hp hu k⟩
   · obtain ⟨c, e⟩ := cell_has (n := s.heap.objs.size + 1) k
     refine .inr ⟨.inl k, c, e, ?_⟩
     have q := x.cell y c e
     rw [bindC_get ndP hp hu (by show scope.names.lookup y ≠ _; rw [k]; decide)] at q
     exact q
 · exact e0.hok.fresh (Nat.le_of_lt (x.above y c (PySem.mem_of_lookup h)))
 · unfold start
   show _ = N.length
   rw [List.length_append, List.length_map, List.length_replicate]
   omega
theorem fn_of {CX : CXT} {cm : Bool} {P : Program} {w : World} {K : PySem.W.Frag} {mg : Str → Option Value} {base : Heap} {k : Nat} {f : Addr} {name qual : Str} {params : Arguments} {body : List Stmt} {scope : Scope} {dV kV doc pm cdv ct oc : Value} {an od : Option Addr}
   {osl : Array (Option Value)} {N ps : List Str} {sp : Sp} (lk : K.lookup f = some ⟨oc, od, .func (PySem.W.fnOf name qual params body scope dV kV doc pm an cdv ct), osl⟩) (hcd : PySem.W.codeIn K cdv qual = true) (S : FnScope N ps scope)
   (len : ∀ vs H Q E, sp vs H Q E → vs.length = ps.length)
   (hbody : ∀ (A : Around) (outer : List Env) (s : Shared) (H : Hp) (vs : List V) (Q : VK) (E : XK), Room cm k (A.deeper (envOfC qual scope s.heap.objs.size f cdv)) → sp vs H Q E →
     ∃ t, PSs (cxOf CX cm P w K mg base N qual scope f cdv A outer s H E) body t ∧ t { nx := fun _ H' => Q .non H', rt := Q } (start N vs) H) :
   FnOk P w K mg base CX cm (k + 1) f (PySem.W.fnOf name qual params body scope dV kV doc pm an cdv ct) ps sp := by
 refine ⟨len, fun A outer s H args us vs Q E hr e0 hb r hsp => ?_⟩
 have hl := len _ _ _ _ hsp
 have KX : K.In s.heap := e0.mod.kin.keeps fun b o e => (e0.bs b o e).1
 have lim : s.heap.NoLimit := e0.mod.nolimit.keeps fun b o e => (e0.bs b o e).1
 have hkind : ∀ y ∈ ps.zip us, scope.names.lookup y.1 = some .local ∨ (scope.names.lookup y.1 = some .cell ∧ ((cellsFrom (s.heap.objs.size + 1) scope.names []).lookup y.1).isSome = true) := fun ⟨n, v⟩ hy => by
   rcases S.par n (List.of_mem_zip hy).1 with q | q
   · exact .inl q
   · exact .inr ⟨q, PySem.W.cellsFrom_some _ _ _ (.inl q)⟩
 refine codeAny_call_function hr.depth (KX _ _ lk) rfl S.co S.gen rfl (PySem.W.codeRec_of KX hcd) (hb _ _ _ _ ?_)
 refine wpAny_newFunctionEnv_cells S.kind hkind fun env he s1 x => ?_
 subst he
 refine ⟨lim.keeps x.toInCall.keep, codeAny_func ?_⟩
 obtain ⟨t, ht, hq⟩ := hbody A outer s H vs Q E (hr.deeper _) hsp
 have I : Inv (cxOf CX cm P w K mg base N qual scope f cdv A outer s H E) [] (start N vs) H s1 := inv_start S hr.hd e0 hl r x
 refine wpAny_mono (ht [] s1 (start N vs) H _ I hq) (fun fl s' hs => ?_) fun e s' hs => hs
 have fin : ∀ {σ' : St} {H' : Hp} {v : V} {u : Value}, Inv (cxOf CX cm P w K mg base N qual scope f cdv A outer s H E) [] σ' H' s' → RelV v u → Q v H' → CE outer P w H s Q u s' :=
   fun {σ' H' v u} J rv q => ⟨v, H', J.os, J.bare, J.base, J.hok, rv, q⟩
 cases fl with
 | ret u =>
   obtain ⟨v, σ', H', J, rv, q⟩ := hs
   exact fin J rv q
 | next =>
   obtain ⟨σ', H', J, q⟩ := hs
   exact fin (v := V.non) (u := Value.none) J rfl q
 | brk =>
   obtain ⟨_, _, _, q⟩ := hs
   exact False.elim q
 | cont =>
   obtain ⟨_, _, _, q⟩ := hs
   exact False.elim q
end L2
namespace L2
open PySem PySem.Spec PyProof.Rows
section
variable {X : Cx} {x : Str} {p pos : Pos} {e : Expr} {es : List Expr} {t : TA} {id T : String} {r : List V → Hp → VK → Prop}
def tCB (r : List V → Hp → VK → Prop) (t : TA) : TE := fun σ H Q => t σ H fun vs H1 => r vs H1 Q
theorem pe_callB (hc : CallR X (.builtin id) r) (hg : Gl X x) (hm : X.mg x = none) (hv : bootBuiltins x = some (.builtin id)) (ha : PA X (e :: es) t) (hn : x ≠ "__name__" := by decide) (hdb : (x == ("__debug__" : Str)) = false := by decide)
   (he : starEach (e :: es) X.env = (false, eval e X.env) :: starEach es X.env := by rfl) (hpl : (backTo pos (starEach es X.env)).any (·.1) = false := by rfl) : PE X (.Call (.Name x p) (e :: es) [] pos) (tCB r t) := by
 intro pins s σ H Q I h
 refine wpAny_Call_Name_kw (ld_blt I hg hm hv ?_ hn hdb)
 exact PyProof.Rows.callWith_builtin1 (thn (ha pos pins s σ H _ I h) fun us s1 ⟨vs, H1, I1, r1, q1⟩ => hc pins s1 σ H1 vs us Q I1 r1 q1) he hpl
theorem pe_callTy (hc : CallR X (.type T) r) (hg : Gl X x) (hm : X.mg x = none) (hv : bootBuiltins x = some (.type T)) (ha : PA X (e :: es) t) (hn : x ≠ "__name__" := by decide) (hdb : (x == ("__debug__" : Str)) = false := by decide)
   (he : starEach (e :: es) X.env = (false, eval e X.env) :: starEach es X.env := by rfl) (hpl : (backTo pos (starEach es X.env)).any (·.1) = false := by rfl) : PE X (.Call (.Name x p) (e :: es) [] pos) (tCB r t) := by
 intro pins s σ H Q I h
 refine wpAny_Call_Name_kw (ld_blt I hg hm hv ?_ hn hdb)
 exact PyProof.Rows.callWith_type1 (thn (ha pos pins s σ H _ I h) fun us s1 ⟨vs, H1, I1, r1, q1⟩ => hc pins s1 σ H1 vs us Q I1 r1 q1) he hpl
end
end L2
namespace HT
open PySem PyProof.Rows
section
open PySem.SeqAt
open PySem.AutoSeq1 (wpAny_loadPart')
open PySem.MeetsSeq PySem.MeetsSeq2 PySem.MeetsSeq3
end
section
variable {prog : Program} {w : World} {A : Around} {E : Value → Shared → Prop} {s : Shared}
theorem cat_tup {t b : Addr} {vs ws : List Value} {Q : Value → Shared → Prop} (ht : IsTup s.heap t vs.toArray) (hb : IsTup s.heap b ws.toArray) (hv : vs ≠ [])
   (h1 : ws = [] → Q (.ref t) s) (h2 : ws ≠ [] → Q (.ref s.heap.objs.size) { s with heap := s.heap.push { cls := .type "tuple", data := .seq (vs ++ ws).toArray } })
   (hsz : vs.length + ws.length ≤ sizeLine) : wpAny (model prog w) A (binaryOp .Add (.ref t) (.ref b)) Q E s := by
 obtain ⟨⟨cls, dd, data, sl⟩, ho, hc, n, hd⟩ := id ht
 obtain ⟨⟨cls2, dd2, data2, sl2⟩, ho2, hc2, n2, hd2⟩ := id hb
 simp only at hc hd hc2 hd2
 subst hc hd hc2 hd2
 have e : vs.toArray ++ ws.toArray = (vs ++ ws).toArray := by simp
 by_cases hw : ws = []
 · exact concat_meets ⟨_, ho, rfl⟩ ⟨_, ho2, rfl⟩ noFill_tuple_add seq_tuple_add PySem.F.slot_tuple_add PySem.F.entry_tuple_add (PySem.F.args_tuple_add_2 _ _)
     (tuple_addW1 t b vs.toArray ws.toArray n n2 dd dd2 sl sl2 (by simpa using hv) (by simp [hw])) ⟨ho, ho2, h1 hw⟩
 · refine concat_meets ⟨_, ho, rfl⟩ ⟨_, ho2, rfl⟩ noFill_tuple_add seq_tuple_add PySem.F.slot_tuple_add PySem.F.entry_tuple_add (PySem.F.args_tuple_add_2 _ _)
     (tuple_addW2 t b vs.toArray ws.toArray n n2 dd dd2 sl sl2 (by simpa using hv) (by simpa using hw) (by rw [List.size_toArray, List.size_toArray]; exact hsz)) ⟨ho, ho2, ?_⟩
   rw [e]
   exact h2 hw
def sIx (n d : Nat) : Option Int → Nat
 | none => d
 | some v => if v < 0 then (v + (n : Int)).toNat else min v.toNat n
theorem sIx_none (n d : Nat) : sIx n d none = d := rfl
theorem sIx_nat (n d k : Nat) : sIx n d (some (k : Int)) = min k n := by
 show (if (k : Int) < 0 then ((k : Int) + (n : Int)).toNat else min (k : Int).toNat n) = min k n
 rw [if_neg (by omega), Int.toNat_natCast]
theorem sIx_le (n d : Nat) (hd : d ≤ n) (o : Option Int) : sIx n d o ≤ n := by
 cases o with
 | none => exact hd
 | some v =>
   show (if v < 0 then (v + (n : Int)).toNat else min v.toNat n) ≤ n
   by_cases hv : v < 0
   · rw [if_pos hv]; omega
   · rw [if_neg hv]; exact Nat.min_le_right _ _
theorem clip_eq (v : Int) (n d : Nat) : (if v < 0 then max (v + (n : Int)) 0 else min v (n : Int)) = ((sIx n d (some v) : Nat) : Int) := by
 show (if v < 0 then max (v + (n : Int)) 0 else min v (n : Int)) = (((if v < 0 then (v + (n : Int)).toNat else min v.toNat n) : Nat) : Int)
 by_cases hv : v < 0
 · simp only [if_pos hv]; omega
 · simp only [if_neg hv]; omega
theorem adjust_gen (lo hi : Option Int) (n : Nat) : Builtin.Slice.sliceAdjust lo hi 1 (n : Int) = (((sIx n 0 lo : Nat) : Int), ((sIx n n hi : Nat) : Int)) := by
 have h1 : ¬ ((1 : Int) < 0) := by omega
 unfold Builtin.Slice.sliceAdjust
 simp only [h1, if_false]
 refine Prod.ext ?_ ?_
 · cases lo with
   | none => rfl
   | some v => exact clip_eq v n 0
 · cases hi with
   | none => rfl
   | some v => exact clip_eq v n n
theorem places_gen (i j : Nat) : Builtin.Slice.slicePlaces (i : Int) (j : Int) 1 = j - i := by
 unfold Builtin.Slice.slicePlaces
 have h1 : (1 : Int) > 0 := by omega
 simp only [h1, if_true, Int.ediv_one]
 split <;> omega
theorem slicePart_ {v : Value} {o : Option Int} {Q : Option Int → Shared → Prop} (p : IsPart v o) (h : Q o s) : wpAny (model prog w) A (Builtin.Slice.slicePartIndex v) Q E s := by
 cases p with
 | none => exact slicePart_none h
 | int i t => exact slicePart_int h
theorem sliceApplied_gen {sl : Addr} {vl vu : Value} {lo hi : Option Int} {n : Nat} {Q : Int × Int × Nat → Shared → Prop} (hs : s.heap.IsSliceOf sl vl vu .none) (pl : IsPart vl lo) (pu : IsPart vu hi)
   (h : Q (((sIx n 0 lo : Nat) : Int), 1, sIx n n hi - sIx n 0 lo) s) : wpAny (model prog w) A (Builtin.Slice.sliceApplied (.ref sl) (pure (n : Int))) Q E s := by
 obtain ⟨os, hos, hcs, hds⟩ := id hs
 unfold Builtin.Slice.sliceApplied Builtin.Slice.sliceFields
 refine wpAny_bind (wpAny_bind (wpAny_field hos hds (x := vl) rfl (wpAny_bind (wpAny_field hos hds (x := vu) rfl (wpAny_bind (wpAny_field hos hds (x := .none) rfl (wpAny_pure ?_)))))))
 refine wpAny_bind (slicePart_none ?_)
 show wpAny _ _ (if ((1 : Int) == 0) = true then _ else _) _ _ s
 rw [if_neg (by decide)]
 refine wpAny_bind (slicePart_ pl (wpAny_bind (slicePart_ pu (wpAny_bind (wpAny_pure ?_)))))
 show wpAny _ _ (match Builtin.Slice.sliceAdjust lo hi 1 (n : Int) with | (lo, hi) => pure (lo, (1 : Int), Builtin.Slice.slicePlaces lo hi 1)) _ _ s
 rw [adjust_gen lo hi n]
 show wpAny _ _ (pure (((sIx n 0 lo : Nat) : Int), (1 : Int), Builtin.Slice.slicePlaces ((sIx n 0 lo : Nat) : Int) ((sIx n n hi : Nat) : Int) 1)) _ _ s
 rw [places_gen]
 exact wpAny_pure h
theorem pick_gen (xs : Array Value) (i k : Nat) : ((List.range k).filterMap fun (m : Nat) => xs[((i : Int) + (m : Int) * 1).toNat]?).toArray = ((xs.toList.drop i).take k).toArray := by
 have e : (fun (m : Nat) => xs[((i : Int) + (m : Int) * 1).toNat]?) = fun m => xs[i + m]? := by
   funext m
   have : ((i : Int) + (m : Int) * 1).toNat = i + m := by omega
   rw [this]
 rw [e]
 have := pick_run xs i k
 rw [List.filterMap_map] at this
 have e2 : ((fun x => xs[x]?) ∘ fun x => i + x) = fun m => xs[i + m]? := rfl
 rw [e2] at this
 rw [this]
theorem getItem_tuple_cut {t sl : Addr} {items : Array Value} {vl vu : Value} {lo hi : Option Int} {Q : Value → Shared → Prop} (ht : IsTup s.heap t items) (hs : s.heap.IsSliceOf sl vl vu .none) (pl : IsPart vl lo) (pu : IsPart vu hi)
   (hw : ¬ (sIx items.size 0 lo = 0 ∧ sIx items.size items.size hi = items.size))
   (h : Q (.ref s.heap.objs.size) { s with heap := s.heap.push { cls := .type "tuple", data := .seq ((items.toList.drop (sIx items.size 0 lo)).take (sIx items.size items.size hi - sIx items.size 0 lo)).toArray } })
   (hsz : items.size ≤ sizeLine) : wpAny (model prog w) A (getItem (.ref t) (.ref sl)) Q E s := by
 have htake : sizeOk (.seq ((items.toList.drop (sIx items.size 0 lo)).take (sIx items.size items.size hi - sIx items.size 0 lo)).toArray) := by
   show ((items.toList.drop (sIx items.size 0 lo)).take (sIx items.size items.size hi - sIx items.size 0 lo)).toArray.size ≤ sizeLine
   rw [List.size_toArray, List.length_take, List.length_drop, Array.length_toList]
   omega
 have hj : sIx items.size items.size hi ≤ items.size := sIx_le _ _ (Nat.le_refl _) hi
 obtain ⟨os, hos, hcs, hds⟩ := id hs
 have hTs : s.TypeIs (.ref sl) "slice" := ⟨os, hos, hcs⟩
 unfold getItem
 try with_reducible refine wpAny_holding ?_
 first | refine wpAny_bind (wpAny_pure ?_) | skip
 refine wpAny_bind (wpAny_sequenceKey ht.typeIs (by decide) ?_)
 refine wpAny_bind (wpAny_callSpecial?_slot (name := Str.ofString "__getitem__") ht.typeIs PyProof.Rows.slot_tuple_getitem
   (wpAny_call_entry PyProof.Rows.slot_tuple_getitem ht.typeIs entry_tuple_getitem ?_ (args_tuple_getitem _ _)))
 show wpAny _ _ (Builtin.Tuple.tupleItemsOf (.ref t) >>= _) _ _ s
 refine wpAny_bind (tupleItemsOf_ ht ?_)
 refine wpAny_bind (wpAny_typeOf hTs ?_)
 rw [if_pos (by decide)]
 refine wpAny_bind (sliceApplied_gen hs pl pu ?_)
 have hno : ¬ ((((sIx items.size 0 lo : Nat) : Int) == 0 && (1 : Int) == 1 && (sIx items.size items.size hi - sIx items.size 0 lo) == items.size) = true) := by
   intro q
   rw [Bool.and_eq_true, Bool.and_eq_true] at q
   have q1 : ((sIx items.size 0 lo : Nat) : Int) = 0 := eq_of_beq q.1.1
   have q2 : sIx items.size items.size hi - sIx items.size 0 lo = items.size := eq_of_beq q.2
   exact hw ⟨by omega, by omega⟩
 show wpAny _ _ (if (((sIx items.size 0 lo : Nat) : Int) == 0 && (1 : Int) == 1 && (sIx items.size items.size hi - sIx items.size 0 lo) == items.size) = true then _ else _) _ _ s
 rw [if_neg hno, pick_gen]
 first
   | exact wpAny_bind (m := Builtin.Tuple.tupleExact _) (wpAny_newObj_type (wpAny_pure ⟨_, rfl, wpAny_pure h⟩) htake)
   | exact wpAny_bind (m := Builtin.Tuple.tupleExact _) (wpAny_newObj_type (wpAny_bind (wpAny_pure (wpAny_pure ⟨_, rfl, wpAny_pure h⟩))) htake)
   | exact wpAny_bind (wpAny_bind (m := Builtin.Tuple.tupleExact _) (wpAny_newObj_type (wpAny_pure (wpAny_pure ⟨_, rfl, wpAny_pure h⟩)) htake))
   | exact wpAny_bind (wpAny_bind (m := Builtin.Tuple.tupleExact _) (wpAny_newObj_type (wpAny_pure ⟨_, rfl, wpAny_pure h⟩) htake))
end
end HT
namespace L2
open PySem PySem.Spec PyProof.Rows
abbrev TO := St → Hp → (Option Int → Hp → Prop) → Prop
def PO (X : Cx) (e : Option Expr) (t : TO) : Prop :=
 ∀ (pins : List (Addr × Obj)) (s : Shared) (σ : St) (H : Hp) (Q : Option Int → Hp → Prop), Inv X pins σ H s → t σ H Q →
   wpAny (model X.prog X.w) X.A (evalPart e X.env) (fun u s' => ∃ o H', Inv X pins σ H' s' ∧ IsPart u o ∧ Q o H') X.xe s
def tNoPart : TO := fun _ H Q => Q none H
def tPart (t : TE) : TO := fun σ H Q => t σ H fun x H1 => ∃ i, x = .int i ∧ Q (some i) H1
section
variable {X : Cx} {e : Expr} {te : TE} {lo hi : Option Expr} {tl th : TO} {pos p2 : Pos}
theorem po_none : PO X none tNoPart := by
 intro pins s σ H Q I h
 rw [evalPart_none]
 exact wpAny_pure ⟨none, H, I, .none, h⟩
theorem po_some (h : PE X e te) : PO X (some e) (tPart te) := by
 intro pins s σ H Q I hw
 rw [evalPart_some]
 refine thn (h pins s σ H _ I hw) fun u s1 ⟨x, H1, I1, r1, q1⟩ => ?_
 obtain ⟨i, rfl, q⟩ := q1
 obtain ⟨t, rfl⟩ := r1
 exact ⟨some i, H1, I1, .int i t, q⟩
def SlR (X : Cx) (r : V → Option Int → Option Int → Hp → VK → Prop) : Prop :=
 ∀ (pins : List (Addr × Obj)) (s : Shared) (σ : St) (H : Hp) (x : V) (v vl vu : Value) (lo hi : Option Int) (sl : Addr) (Q : VK), Inv X pins σ H s → RelV x v → s.heap.IsSliceOf sl vl vu .none → IsPart vl lo → IsPart vu hi → r x lo hi H Q →
   ∃ T id, typeLookup (.type T) "__getitem__" = pure (some (.builtin id)) ∧ s.TypeIs v T ∧ wpAny (model X.prog X.w) X.A (getItem v (.ref sl)) (EP X pins σ Q) X.xe s
theorem SlR.or {r r' : V → Option Int → Option Int → Hp → VK → Prop} (h : SlR X r) (h' : SlR X r') : SlR X (fun x lo hi H Q => r x lo hi H Q ∨ r' x lo hi H Q) := by
 intro pins s σ H x v vl vu lo hi sl Q I rx hs pl pu q
 rcases q with q | q
 · exact h pins s σ H x v vl vu lo hi sl Q I rx hs pl pu q
 · exact h' pins s σ H x v vl vu lo hi sl Q I rx hs pl pu q
def tSl (r : V → Option Int → Option Int → Hp → VK → Prop) (te : TE) (tl th : TO) : TE := fun σ H Q => te σ H fun x H1 => tl σ H1 fun l H2 => th σ H2 fun u H3 => r x l u H3 Q
theorem pe_slice {r : V → Option Int → Option Int → Hp → VK → Prop} (hr : SlR X r) (he : PE X e te) (hl : PO X lo tl) (hu : PO X hi th) : PE X (.Subscript e (.Slice lo hi none p2) pos) (tSl r te tl th) := by
 intro pins s σ H Q I h
 refine Subscript_ (thn (he pins s σ H _ I h) fun v s1 ⟨x, H1, I1, r1, q1⟩ => ?_)
 refine wpAny_Slice (thn (hl pins s1 σ H1 _ I1 q1) fun vl s2 ⟨l, H2, I2, pl, q2⟩ => thn (hu pins s2 σ H2 _ I2 q2) fun vu s3 ⟨u, H3, I3, pu, q3⟩ => ?_)
 rw [evalPart_none]
 refine wpAny_pure ?_
 have I4 : Inv X pins σ H3 { s3 with heap := s3.heap.push { cls := .type "slice", data := .fields #[vl, vu, .none] } } := I3.kept (t' := s3.toks) fun b ob q => Heap.get?_push_of_some _ q
 obtain ⟨T, id, hT, ht, hg⟩ := hr pins { s3 with heap := s3.heap.push { cls := .type "slice", data := .fields #[vl, vu, .none] } } σ H3 x v vl vu l u s3.heap.objs.size Q I4 r1 (Heap.IsSliceOf.new ..) pl pu q3
 show wpAny (model X.prog X.w) X.A (subscriptTail e (.Slice lo hi none p2) v (.ref s3.heap.objs.size)) (EP X pins σ Q) X.xe { s3 with heap := s3.heap.push { cls := .type "slice", data := .fields #[vl, vu, .none] } }
 exact tail_any (ops := [.ref s3.heap.objs.size, v]) ht hT hg (by with_unfolding_all rfl)
def cutV (xs : List V) (lo hi : Option Int) : List V := (xs.drop (HT.sIx xs.length 0 lo)).take (HT.sIx xs.length xs.length hi - HT.sIx xs.length 0 lo)
theorem cutV_length (xs : List V) (lo hi : Option Int) : (cutV xs lo hi).length ≤ xs.length := by
 unfold cutV
 rw [List.length_take, List.length_drop]
 omega
def rSlT (K : PySem.W.Frag) : V → Option Int → Option Int → Hp → VK → Prop := fun x lo hi H Q => ∃ a xs, x = .ref a ∧ SqT K H a xs ∧
 ¬ (HT.sIx xs.length 0 lo = 0 ∧ HT.sIx xs.length xs.length hi = xs.length) ∧ ∀ p, H p = none → Q (.ref p) (upd H p (.tup (cutV xs lo hi)))
theorem sl_tup : SlR X (rSlT X.K) := by
 intro pins s σ H x v vl vu lo hi sl Q I rx hs pl pu h
 obtain ⟨a, xs, rfl, hx, hw, q⟩ := h
 cases rx
 obtain ⟨its, r, ht, hz⟩ := I.tuple hx
 have hlen : its.toArray.size = xs.length := by rw [List.size_toArray]; exact r.length.symm
 refine ⟨"tuple", _, PyProof.Rows.slot_tuple_getitem.lookup, ht.typeIs, ?_⟩
 refine HT.getItem_tuple_cut ht hs pl pu (by rw [hlen]; exact hw) ?_ (by rw [hlen]; exact hz)
 rw [hlen]
 refine ⟨.ref s.heap.objs.size, _, I.laid (t' := s.toks) (o := .tup (cutV xs lo hi)) (fun b ob q => Heap.get?_push_of_some _ q) (Nat.le_refl _) ?_, rfl, q _ (I.hok.fresh (Nat.le_refl _))⟩
 exact ⟨Nat.le_trans (cutV_length xs lo hi) hz, _, (r.drop (HT.sIx xs.length 0 lo)).take (HT.sIx xs.length xs.length hi - HT.sIx xs.length 0 lo), IsTup.new _ _⟩
def rCatT (K : PySem.W.Frag) : R2 := fun x y H Q => ∃ a b xs ys, x = .ref a ∧ y = .ref b ∧ SqT K H a xs ∧ SqT K H b ys ∧ xs ≠ [] ∧ xs.length + ys.length ≤ sizeLine ∧
 (ys = [] → Q (.ref a) H) ∧ (ys ≠ [] → ∀ p, H p = none → Q (.ref p) (upd H p (.tup (xs ++ ys))))
theorem Vals.nil_iff {xs : List V} {us : List Value} (r : Vals xs us) : us = [] ↔ xs = [] := by
 cases r with
 | nil => simp
 | cons _ _ => simp
theorem op_catT : OpR X (binaryOp .Add) (rCatT X.K) := by
 intro pins s σ H x y v u Q I rx ry h
 obtain ⟨a, b, xs, ys, rfl, rfl, ha, hb, hx, hz, q1, q2⟩ := h
 cases rx
 cases ry
 obtain ⟨its, r1, p1, _⟩ := I.tuple ha
 obtain ⟨its2, r2, p2, _⟩ := I.tuple hb
 refine HT.cat_tup p1 p2 (fun z => hx (r1.nil_iff.mp z)) (fun z => ⟨.ref a, H, I, rfl, q1 (r2.nil_iff.mp z)⟩) (fun z => ?_) (by rw [← r1.length, ← r2.length]; exact hz)
 refine ⟨.ref s.heap.objs.size, _, I.laid (t' := s.toks) (o := .tup (xs ++ ys)) (fun b ob q => Heap.get?_push_of_some _ q) (Nat.le_refl _) ?_, rfl, q2 (fun w => z (r2.nil_iff.mpr w)) _ (I.hok.fresh (Nat.le_refl _))⟩
 exact ⟨by rw [List.length_append]; exact hz, _, r1.append r2, IsTup.new _ _⟩
end
end L2
namespace L2
open PySem PySem.Spec PyProof.Rows
def ixN (n : Nat) (i : Int) : Option Nat := if 0 ≤ i then (if i < n then some i.toNat else none) else if -(n : Int) ≤ i then some (i + n).toNat else none
def atI {α : Type} (xs : List α) (i : Int) : Option α := (ixN xs.length i).bind fun j => xs[j]?
theorem ixN_seq {n : Nat} {i : Int} {j : Nat} (h : ixN n i = some j) : seqIndex? i n = some j ∧ j < n ∧ -(n : Int) ≤ i ∧ i < n := by
 unfold ixN at h
 by_cases h0 : 0 ≤ i
 · rw [if_pos h0] at h
   by_cases h1 : i < n
   · rw [if_pos h1] at h
     have e : i.toNat = j := Option.some.inj h
     exact ⟨by rw [seqIndex_of h0 h1, e], by omega, by omega, h1⟩
   · rw [if_neg h1] at h; cases h
 · rw [if_neg h0] at h
   by_cases h1 : -(n : Int) ≤ i
   · rw [if_pos h1] at h
     have e : (i + n).toNat = j := Option.some.inj h
     exact ⟨by rw [seqIndex_neg (by omega) h1, e], by omega, h1, by omega⟩
   · rw [if_neg h1] at h; cases h
theorem atI_get {α : Type} {xs : List α} {i : Int} {v : α} (h : atI xs i = some v) : ∃ j, seqIndex? i xs.length = some j ∧ xs[j]? = some v ∧ j < xs.length ∧ -(xs.length : Int) ≤ i ∧ i < xs.length := by
 unfold atI at h
 cases e : ixN xs.length i with
 | none => rw [e] at h; cases h
 | some j =>
   rw [e] at h
   obtain ⟨h1, h2, h3, h4⟩ := ixN_seq e
   exact ⟨j, h1, h, h2, h3, h4⟩
theorem atI_nat {α : Type} {xs : List α} {j : Nat} {v : α} (h : xs[j]? = some v) : atI xs (j : Int) = some v := by
 have hj : j < xs.length := (List.getElem?_eq_some_iff.mp h).1
 have e : ixN xs.length (j : Int) = some j := by
   unfold ixN
   rw [if_pos (by omega), if_pos (by omega)]; simp
 unfold atI; rw [e]; exact h
def PlainIx (b : Expr) : Prop := ∀ o i, subscripted b false o i = operate [o, i] (getItem o i)
def IxR (X : Cx) (r : R2) : Prop :=
 ∀ (value slice : Expr) (pins : List (Addr × Obj)) (s : Shared) (σ : St) (H : Hp) (x y : V) (v u : Value) (Q : VK), Inv X pins σ H s → RelV x v → RelV y u → r x y H Q →
   subscripted slice false v u = operate [v, u] (getItem v u) → wpAny (model X.prog X.w) X.A (subscriptTail value slice v u) (EP X pins σ Q) X.xe s
def MtR (X : Cx) (id : String) (r : V → List V → Hp → VK → Prop) : Prop :=
 ∀ (pins : List (Addr × Obj)) (s : Shared) (σ : St) (H : Hp) (x : V) (xs : List V) (v : Value) (us : List Value) (Q : VK), Inv X pins σ H s → RelV x v → Vals xs us → r x xs H Q →
   wpAny (model X.prog X.w) X.A (call (.builtin id) (v :: us)) (EP X pins σ Q) X.xe s
section
variable {X : Cx} {a b : Expr} {ta tb : TE} {pos : Pos}
theorem IxR.or {r r' : R2} (h : IxR X r) (h' : IxR X r') : IxR X (fun x y H Q => r x y H Q ∨ r' x y H Q) := by
 intro value slice pins s σ H x y v u Q I rx ry q hs
 rcases q with q | q
 · exact h value slice pins s σ H x y v u Q I rx ry q hs
 · exact h' value slice pins s σ H x y v u Q I rx ry q hs
theorem MtR.or {id : String} {r r' : V → List V → Hp → VK → Prop} (h : MtR X id r) (h' : MtR X id r') : MtR X id (fun x xs H Q => r x xs H Q ∨ r' x xs H Q) := by
 intro pins s σ H x xs v us Q I rx rs q
 rcases q with q | q
 · exact h pins s σ H x xs v us Q I rx rs q
 · exact h' pins s σ H x xs v us Q I rx rs q
theorem pe_ix {r : R2} (hr : IxR X r) (ha : PE X a ta) (hb : PE X b tb) (hs : PlainIx b) : PE X (.Subscript a b pos) (tOp r ta tb) := by
 intro pins s σ H Q I h
 exact Subscript_ (binT ha hb I h fun v u s2 x y H2 I2 rx ry q => hr a b pins s2 σ H2 x y v u Q I2 rx ry q (hs _ _))
def rIxL (K : PySem.W.Frag) : R2 := fun x y H Q => ∃ p xs i v, x = .ref p ∧ y = .int i ∧ SqL K H p xs ∧ atI xs i = some v ∧ Q v H
def rIxT (K : PySem.W.Frag) : R2 := fun x y H Q => ∃ p xs i v, x = .ref p ∧ y = .int i ∧ SqT K H p xs ∧ atI xs i = some v ∧ Q v H
def rIxS : R2 := fun x y H Q => ∃ z i c, x = .str z ∧ y = .int i ∧ z.length ≤ sizeLine ∧ atI z.cps.toList i = some c ∧ Q (.str ⟨#[c]⟩) H
theorem ix_list : IxR X (rIxL X.K) := by
 intro value slice pins s σ H x y v u Q I rx ry h hs
 obtain ⟨p, xs, i, z, rfl, rfl, hq, he, q⟩ := h
 cases rx
 obtain ⟨t, rfl⟩ := ry
 obtain ⟨its, r, pl, hz⟩ := I.list hq
 obtain ⟨j, h1, h2, h3, h4, h5⟩ := atI_get he
 obtain ⟨w, ew, rw'⟩ := r.get h2
 have hl := r.length
 have hn := line63
 have fin : EP X pins σ Q w s := ⟨z, H, I, rw', q⟩
 by_cases h0 : 0 ≤ i
 · have hj : i.toNat = j := by
     rw [seqIndex_of h0 h5] at h1
     exact Option.some.inj h1
   exact item_listR pl.isList h0 (by omega) (by rw [hj]; simpa using ew) fin hs
 · have hj : (i + (its.toArray.size : Int)).toNat = j := by
     rw [seqIndex_neg (by omega) h4] at h1
     rw [List.size_toArray, ← hl]
     exact Option.some.inj h1
   exact subscriptTail_builtinR (x := w) pl.isList.typeIs slot_list_getitem.lookup
     (wpAny_getItem_list_neg (Q := fun r s' => r = w ∧ EP X pins σ Q r s') pl.isList (by omega) (by rw [List.size_toArray] <;> omega) (by omega) (by rw [hj]; simpa using ew) ⟨rfl, fin⟩) hs
theorem ix_tup : IxR X (rIxT X.K) := by
 intro value slice pins s σ H x y v u Q I rx ry h hs
 obtain ⟨p, xs, i, z, rfl, rfl, hq, he, q⟩ := h
 cases rx
 obtain ⟨t, rfl⟩ := ry
 obtain ⟨its, r, pl, hz⟩ := I.tuple hq
 obtain ⟨j, h1, h2, h3, h4, h5⟩ := atI_get he
 obtain ⟨w, ew, rw'⟩ := r.get h2
 have hl := r.length
 have hn := line63
 have fin : EP X pins σ Q w s := ⟨z, H, I, rw', q⟩
 exact subscriptTail_builtinR (x := w) pl.typeIs slot_tuple_getitem.lookup
   (getItem_tuple (j := j) (Q := fun r s' => r = w ∧ EP X pins σ Q r s') pl (by omega) (by omega) (by rw [List.size_toArray, ← hl]; exact h1) (by simpa using ew) ⟨rfl, fin⟩) hs
theorem ix_str : IxR X rIxS := by
 intro value slice pins s σ H x y v u Q I rx ry h hs
 obtain ⟨z, i, c, rfl, rfl, hz, he, q⟩ := h
 obtain ⟨t, rfl⟩ := rx
 obtain ⟨t', rfl⟩ := ry
 obtain ⟨j, h1, h2, h3, h4, h5⟩ := atI_get he
 have hl : z.cps.toList.length = z.length := by simp [Str.length]
 rw [hl] at h1 h4 h5
 have hn := line63
 exact tail_any (typeIs_str s z t) slot_str_getitem.lookup (getItem_str (c := c) (by
   have e1 : decide (i < -(2 ^ 63 : Int)) = false := decide_eq_false (by omega)
   have e2 : decide (i ≥ 2 ^ 63) = false := decide_eq_false (by omega)
   rw [e1, e2, Bool.or_false]) (by rw [h1]; simpa using h2) ⟨.str ⟨#[c]⟩, H, I.tok _, ⟨_, rfl⟩, q⟩) hs
def rIx (K : PySem.W.Frag) : R2 := fun x y H Q => rIxL K x y H Q ∨ rIxT K x y H Q ∨ rIxS x y H Q
theorem ix_seq : IxR X (rIx X.K) := ix_list.or (ix_tup.or ix_str)
theorem Inv.lst {pins : List (Addr × Obj)} {σ : St} {H : Hp} {s : Shared} {p : Addr} {xs : List V} (I : Inv X pins σ H s) (h : H p = some (.lst xs)) :
   ∃ (its : List Value) (n : Nat), Vals xs its ∧ s.heap.get? p = some { cls := .type "list", data := .seq its.toArray n } ∧ xs.length ≤ sizeLine := by
 obtain ⟨z, its, n, r, e⟩ := I.hok p _ h
 exact ⟨its, n, r, e, z⟩
theorem slice_bounds (lo hi : Option Int) (n : Nat) : (sliceBounds lo hi none n).1 = ((HT.sIx n 0 lo : Nat) : Int) ∧ (sliceBounds lo hi none n).2.1 = ((HT.sIx n n hi : Nat) : Int) ∧ (sliceBounds lo hi none n).2.2 = 1 := by
 refine ⟨?_, ?_, rfl⟩
 · cases lo with
   | none => simp [sliceBounds, HT.sIx]
   | some i =>
     simp only [sliceBounds, HT.sIx, Option.getD_none, show (1 : Int) > 0 by decide, if_true]
     by_cases h : i < 0
     · simp only [h, if_true] <;> omega
     · simp only [h, if_false] <;> omega
 · cases hi with
   | none => simp [sliceBounds, HT.sIx]
   | some i =>
     simp only [sliceBounds, HT.sIx, Option.getD_none, show (1 : Int) > 0 by decide, if_true]
     by_cases h : i < 0
     · simp only [h, if_true] <;> omega
     · simp only [h, if_false] <;> omega
theorem slicePick_cut (its : List Value) (lo hi : Option Int) : slicePick its.toArray lo hi none = ((its.drop (HT.sIx its.length 0 lo)).take (HT.sIx its.length its.length hi - HT.sIx its.length 0 lo)).toArray := by
 obtain ⟨h1, h2, h3⟩ := slice_bounds lo hi its.toArray.size
 unfold slicePick
 rw [h1, h2, h3]
 simp only [sliceRange_one, pick_run, List.size_toArray] <;> rfl
def rSlL (K : PySem.W.Frag) : V → Option Int → Option Int → Hp → VK → Prop := fun x lo hi H Q => ∃ a xs, x = .ref a ∧ SqL K H a xs ∧ ∀ p, H p = none → Q (.ref p) (upd H p (.lst (cutV xs lo hi)))
theorem sl_list : SlR X (rSlL X.K) := by
 intro pins s σ H x v vl vu lo hi sl Q I rx hs pl pu h
 obtain ⟨a, xs, rfl, hx, q⟩ := h
 cases rx
 obtain ⟨its, r, ht, hz⟩ := I.list hx
 have hlen := r.length
 refine ⟨"list", _, slot_list_getitem.lookup, ht.isList.typeIs, ?_⟩
 refine wpAny_getItem_list_slice ht.isList hs pl pu .none (by simp) ?_ (by rw [List.size_toArray] <;> omega)
 rw [slicePick_cut, ← hlen]
 refine ⟨.ref s.heap.objs.size, _, I.laid (t' := s.toks) (o := .lst (cutV xs lo hi)) (fun b ob q => Heap.get?_push_of_some _ q) (Nat.le_refl _) ?_, rfl, q _ (I.hok.fresh (Nat.le_refl _))⟩
 exact ⟨Nat.le_trans (cutV_length xs lo hi) hz, _, 0, (r.drop (HT.sIx xs.length 0 lo)).take (HT.sIx xs.length xs.length hi - HT.sIx xs.length 0 lo), Heap.get?_push_size _ rfl⟩
def flatV : V → Bool
 | .non => true
 | .bl _ => true
 | .int _ => true
 | .str _ => true
 | _ => false
def eqV : V → V → Bool
 | .non, .non => true
 | .bl a, .bl b => a == b
 | .bl a, .int b => (if a then 1 else 0) == b
 | .int a, .bl b => a == (if b then 1 else 0)
 | .int a, .int b => a == b
 | .str a, .str b => a == b
 | _, _ => false
theorem eqAt_V {A : Around} {s : Shared} {y x : V} {u v : Value} (ry : RelV y u) (rx : RelV x v) (fy : flatV y = true) (fx : flatV x = true) : SeqAt.EqAt A s u v (eqV y x) := by
 cases y with
 | non =>
   cases ry
   cases x with
   | non => cases rx; exact SeqAt.EqAt.same _
   | bl b => cases rx; exact SeqAt.EqAt.none_bool b
   | int b => obtain ⟨t, rfl⟩ := rx; exact SeqAt.EqAt.none_int b t
   | str b => obtain ⟨t, rfl⟩ := rx; exact SeqAt.EqAt.none_str b t
   | _ => exact absurd (show false = true from fx) Bool.false_ne_true
 | bl a =>
   cases ry
   cases x with
   | non => cases rx; exact SeqAt.EqAt.bool_none a
   | bl b => cases rx; exact SeqAt.EqAt.bool_bool a b
   | int b => obtain ⟨t, rfl⟩ := rx; exact SeqAt.EqAt.bool_int a b t
   | str b => obtain ⟨t, rfl⟩ := rx; exact SeqAt.EqAt.bool_str a b t
   | _ => exact absurd (show false = true from fx) Bool.false_ne_true
 | int a =>
   obtain ⟨t', rfl⟩ := ry
   cases x with
   | non => cases rx; exact SeqAt.EqAt.int_none a t'
   | bl b => cases rx; exact SeqAt.EqAt.int_bool a t' b
   | int b => obtain ⟨t, rfl⟩ := rx; exact SeqAt.EqAt.int_int a t' b t
   | str b => obtain ⟨t, rfl⟩ := rx; exact SeqAt.EqAt.int_str a t' b t
   | _ => exact absurd (show false = true from fx) Bool.false_ne_true
 | str a =>
   obtain ⟨t', rfl⟩ := ry
   cases x with
   | non => cases rx; exact SeqAt.EqAt.str_none a t'
   | bl b => cases rx; exact SeqAt.EqAt.str_bool a t' b
   | int b => obtain ⟨t, rfl⟩ := rx; exact SeqAt.EqAt.str_int a t' b t
   | str b => obtain ⟨t, rfl⟩ := rx; exact SeqAt.EqAt.str_str a t' b t
   | _ => exact absurd (show false = true from fx) Bool.false_ne_true
 | _ => exact absurd (show false = true from fy) Bool.false_ne_true
theorem call_len_seq : CallR X (.builtin "len") (fun xs H Q => ∃ p ys, xs = [.ref p] ∧ (SqL X.K H p ys ∨ SqT X.K H p ys) ∧ Q (.int ys.length) H) := by
 intro pins s σ H xs us Q I r h
 obtain ⟨p, ys, rfl, hq, q⟩ := h
 obtain ⟨u, rfl, rx⟩ := vals1 r
 cases rx
 have hn := line63
 rcases hq with hq | hq
 · obtain ⟨its, r', pl, hz⟩ := I.list hq
   have hlen := r'.length
   exact Calls.call_len_list pl.isList (by simp only [List.size_toArray] <;> omega) ⟨.int ys.length, H, I.tok _, ⟨s.toks + 1, by rw [List.size_toArray, hlen]⟩, q⟩
 · obtain ⟨its, r', pl, hz⟩ := I.tuple hq
   have hlen := r'.length
   exact len_tuple pl (by simp only [List.size_toArray] <;> omega) ⟨.int ys.length, H, I.tok _, ⟨s.toks + 1, by rw [List.size_toArray, hlen]⟩, q⟩
theorem CallR.or {f : Value} {r r' : List V → Hp → VK → Prop} (h : CallR X f r) (h' : CallR X f r') : CallR X f (fun xs H Q => r xs H Q ∨ r' xs H Q) := by
 intro pins s σ H xs us Q I rs q
 rcases q with q | q
 · exact h pins s σ H xs us Q I rs q
 · exact h' pins s σ H xs us Q I rs q
theorem call_list_of : CallR X (.type "list") (fun xs H Q => ∃ p ys, xs = [.ref p] ∧ (SqL X.K H p ys ∨ SqT X.K H p ys) ∧ ∀ l, H l = none → Q (.ref l) (upd H l (.lst ys))) := by
 intro pins s σ H xs us Q I r h
 obtain ⟨p, ys, rfl, hq, q⟩ := h
 obtain ⟨u, rfl, rx⟩ := vals1 r
 cases rx
 have fin : ∀ (its : List Value), Vals ys its → ys.length ≤ sizeLine → ∀ (h' : Heap) (c' : Nat), (∀ b o', s.heap.get? b = some o' → h'.get? b = some o') →
     h'.get? s.heap.objs.size = some { cls := .type "list", dict := none, data := .seq its.toArray c', slots := #[] } → EP X pins σ Q (.ref s.heap.objs.size) { s with heap := h' } := fun its r' hz h' c' kp e =>
   ⟨.ref s.heap.objs.size, _, I.laid (t' := s.toks) kp (Nat.le_refl _) (show ObjOk X.prog X.w _ h' _ (.lst ys) from ⟨hz, its, c', r', e⟩), rfl, q _ (I.hok.fresh (Nat.le_refl _))⟩
 rcases hq with hq | hq
 · obtain ⟨its, r', pl, hz⟩ := I.list hq
   have hlen := r'.length
   obtain ⟨o, ho, hc, n, hd⟩ := pl.isList
   exact call_list_seq p (.inl rfl) ho hc hd (fun h' c' kp e => fin its r' hz h' c' kp e) (by simp only [List.size_toArray] <;> omega)
 · obtain ⟨its, r', pl, hz⟩ := I.tuple hq
   have hlen := r'.length
   obtain ⟨o, ho, hc, n, hd⟩ := pl
   exact call_list_seq p (.inr rfl) ho hc hd (fun h' c' kp e => fin its r' hz h' c' kp e) (by simp only [List.size_toArray] <;> omega)
theorem call_tuple_of : CallR X (.type "tuple") (fun xs H Q => ∃ p ys, xs = [.ref p] ∧ ((SqL X.K H p ys ∧ ∀ l, H l = none → Q (.ref l) (upd H l (.tup ys))) ∨ (SqT X.K H p ys ∧ Q (.ref p) H))) := by
 intro pins s σ H xs us Q I r h
 obtain ⟨p, ys, rfl, h⟩ := h
 obtain ⟨u, rfl, rx⟩ := vals1 r
 cases rx
 rcases h with ⟨hq, q⟩ | ⟨hq, q⟩
 · obtain ⟨its, r', pl, hz⟩ := I.list hq
   have hlen := r'.length
   refine call_tuple_list pl.isList (fun h' kp => ?_) (by simp only [List.size_toArray] <;> omega)
   have I1 : Inv X pins σ H { s with heap := h' } := I.kept (t' := s.toks) kp
   have I2 : Inv X pins σ (upd H h'.objs.size (.tup ys)) { s with heap := h'.push { cls := .type "tuple", data := .seq its.toArray } } :=
     I1.laid (t' := s.toks) (fun b o e => Heap.get?_push_of_some _ e) (Nat.le_refl _) (show ObjOk X.prog X.w _ _ _ (.tup ys) from ⟨hz, its, r', IsTup.new _ _⟩)
   exact ⟨.ref h'.objs.size, _, I2, rfl, q _ (I1.hok.fresh (Nat.le_refl _))⟩
 · obtain ⟨its, r', pl, hz⟩ := I.tuple hq
   exact call_tuple_same pl ⟨.ref p, H, I, rfl, q⟩
def tyV (K : PySem.W.Frag) (T : String) (x : V) (H : Hp) : Prop := match x with
 | .str _ => T = "str"
 | .int _ => T = "int"
 | .ref p => (T = "list" ∧ ∃ xs, SqL K H p xs) ∨ (T = "tuple" ∧ ∃ o, K.lookup p = some o ∧ o.cls = .type "tuple" ∧ o.dict = none) ∨
     (T = "dict" ∧ ((∃ kvs, H p = some (.dK kvs)) ∨ ∃ kvs, H p = some (.dT kvs))) ∨ (T = "set" ∧ ∃ S n, H p = some (.set S n))
 | _ => False
theorem tyV_is {pins : List (Addr × Obj)} {σ : St} {H : Hp} {s : Shared} {T : String} {x : V} {v : Value} (I : Inv X pins σ H s) (r : RelV x v) (ty : tyV X.K T x H) :
   s.TypeIs v T ∧ ∀ a, v = .ref a → ∃ ob, s.heap.get? a = some ob ∧ ob.dict = none := by
 cases x with
 | str z =>
   obtain ⟨t, rfl⟩ := r
   cases (show T = "str" from ty)
   exact ⟨typeIs_str s z t, fun _ e => nomatch e⟩
 | int i =>
   obtain ⟨t, rfl⟩ := r
   cases (show T = "int" from ty)
   exact ⟨typeIs_int s i t, fun _ e => nomatch e⟩
 | ref p =>
   cases r
   rcases ty with ⟨rfl, xs, hq⟩ | ⟨rfl, o, hk, hc, hd⟩ | ⟨rfl, hk⟩ | ⟨rfl, S, n, hk⟩
   · obtain ⟨its, _, pl, _⟩ := I.list hq
     refine ⟨pl.isList.typeIs, fun a e => ?_⟩
     cases e
     obtain ⟨o, n, e, c, hd, _⟩ := pl
     exact ⟨o, e, hd⟩
   · refine ⟨⟨o, I.kIn p o hk, hc⟩, fun a e => ?_⟩
     cases e
     exact ⟨o, I.kIn _ o hk, hd⟩
   · have z : ∃ o, s.heap.get? p = some o ∧ o.ExactDict := by
       rcases hk with ⟨kvs, hk⟩ | ⟨kvs, hk⟩
       · obtain ⟨_, _, _, _, o, _, _, e, ex, _⟩ := I.hok p _ hk
         exact ⟨o, e, ex⟩
       · obtain ⟨_, _, _, _, o, _, _, e, ex, _⟩ := I.hok p _ hk
         exact ⟨o, e, ex⟩
     obtain ⟨o, e, ex⟩ := z
     refine ⟨⟨o, e, ex.1⟩, fun a e2 => ?_⟩
     cases e2
     exact ⟨o, e, ex.2.1⟩
   · obtain ⟨o, _, _, _, e, ex, _⟩ := I.hok p _ hk
     refine ⟨⟨o, e, ex.1⟩, fun a e2 => ?_⟩
     cases e2
     exact ⟨o, e, ex.2.1⟩
 | _ => exact False.elim ty
def tBM0 (K : PySem.W.Frag) (T : String) (r : V → List V → Hp → VK → Prop) (to : TE) : TE := fun σ H Q => to σ H fun x H1 => tyV K T x H1 ∧ r x [] H1 Q
def tBM (K : PySem.W.Frag) (T : String) (r : V → List V → Hp → VK → Prop) (to : TE) (t : TA) : TE := fun σ H Q => to σ H fun x H1 => tyV K T x H1 ∧ t σ H1 fun xs H2 => r x xs H2 Q
variable {o e : Expr} {es : List Expr} {to : TE} {t : TA} {name : Str} {apos cpos : Pos} {T id : String} {r : V → List V → Hp → VK → Prop}
theorem pe_bm0 (pa : PlainAttrs T) (slot : Slot T name id) (hty : typeOf (.builtin id) = pure (.type "method_descriptor")) (hm : MtR X id r) (ho : PE X o to)
   (hbase : attributeBase o name X.env (eval o X.env) = eval o X.env := by rfl) (hline : (apos.endLine == cpos.line) = true := by rfl) : PE X (.Call (.Attribute o name apos) [] [] cpos) (tBM0 X.K T r to) := by
 intro pins s σ H Q I h
 refine wpAny_Call_method0_late hbase hline (thn (ho pins s σ H _ I h) fun v s1 ⟨x, H1, I1, r1, ty, q1⟩ => ?_)
 obtain ⟨h1, h2⟩ := tyV_is I1 r1 ty
 exact ⟨T, id, pa, slot, hty, h1, h2, Calls.callWith_builtin rfl (PySem.evalArgs_none (hm pins s1 σ H1 x [] v [] Q I1 r1 .nil q1))⟩
theorem pe_bm (pa : PlainAttrs T) (slot : Slot T name id) (hty : typeOf (.builtin id) = pure (.type "method_descriptor")) (hm : MtR X id r) (ho : PE X o to) (ha : PA X (e :: es) t)
   (hbase : attributeBase o name X.env (eval o X.env) = eval o X.env := by rfl)
   (hfew : ((backTo cpos (starEach (e :: es) X.env)).all (fun x => !x.1) && (backToKw cpos (keywordEach [] X.env)).all (fun x => x.1.isSome)
     && decide ((e :: es).length + ([] : List Keyword).length + (if ([] : List Keyword).isEmpty then 0 else 1) < 30)) = true := by rfl)
   (hline : (apos.endLine == cpos.line) = true := by rfl) (hs : starEach (e :: es) X.env = (false, eval e X.env) :: starEach es X.env := by rfl) (hplain : (backTo cpos (starEach es X.env)).any (·.1) = false := by rfl) :
   PE X (.Call (.Attribute o name apos) (e :: es) [] cpos) (tBM X.K T r to t) := by
 intro pins s σ H Q I h
 refine wpAny_Call_method_late hbase hfew hline rfl (thn (ho pins s σ H _ I h) fun v s1 ⟨x, H1, I1, r1, ty, q1⟩ => ?_)
 obtain ⟨h1, h2⟩ := tyV_is I1 r1 ty
 refine ⟨T, id, pa, slot, hty, h1, h2, ?_⟩
 have hA := ha cpos pins s1 σ H1 _ I1 q1
 rw [hs] at hA ⊢
 refine Calls.callWith_builtin (by show (false || (backTo cpos (starEach es X.env)).any (·.1)) = false; rw [hplain] <;> rfl) (Calls.evalArgs_plain ?_)
 exact thn hA fun us s2 ⟨vs, H2, I2, r2, q2⟩ => hm pins s2 σ H2 x vs v us Q I2 r1 r2 q2
/- xs.append(e), list.index on a module's tuple .. are MtR facts of 06m -/
end
end L2
namespace L2
open PySem PySem.Spec PyProof.Rows
def MtM (X : Cx) (id : String) (r : V → List V → Hp → VK → Prop) : Prop :=
 ∀ (pins : List (Addr × Obj)) (s : Shared) (σ : St) (H : Hp) (x : V) (xs : List V) (v : Value) (us : List Value) (Q : VK), Inv X pins σ H s → RelV x v → Vals xs us → r x xs H Q →
   wpAny (model X.prog X.w) X.A (call (.builtin id) (v :: us)) (EP X pins σ Q) X.xe s
theorem Vals.one : ∀ {x : V} {us : List Value}, Vals [x] us → ∃ u, us = [u] ∧ RelV x u
 | _, _, .cons r .nil => ⟨_, rfl, r⟩
theorem Vals.two : ∀ {x y : V} {us : List Value}, Vals [x, y] us → ∃ u v, us = [u, v] ∧ RelV x u ∧ RelV y v
 | _, _, _, .cons r (.cons q .nil) => ⟨_, _, rfl, r, q⟩
theorem Vals.zero : ∀ {us : List Value}, Vals [] us → us = []
 | _, .nil => rfl
theorem Vals.dropLast {xs : List V} {us : List Value} (h : Vals xs us) : Vals xs.dropLast us.dropLast := by
 induction h with
 | nil => exact .nil
 | cons r t ih =>
   cases t with
   | nil => exact .nil
   | cons q t' => exact .cons r ih
theorem Vals.eraseIdx : ∀ {xs : List V} {us : List Value} (i : Nat), Vals xs us → Vals (xs.eraseIdx i) (us.eraseIdx i)
 | _, _, _, .nil => .nil
 | _, _, 0, .cons _ t => t
 | _, _, i + 1, .cons r t => .cons r (Vals.eraseIdx i t)
theorem erase_last {α : Type} (l : List α) : l.eraseIdx (l.length - 1) = l.dropLast := by
 induction l with
 | nil => rfl
 | cons a r ih =>
   cases r with
   | nil => rfl
   | cons b r =>
     have e : (a :: b :: r).length - 1 = ((b :: r).length - 1) + 1 := by
       have h1 : (a :: b :: r).length = r.length + 2 := rfl
       have h2 : (b :: r).length = r.length + 1 := rfl
       omega
     rw [e, List.eraseIdx_cons_succ, ih]
     all_goals rfl
section
variable {X : Cx} {pins : List (Addr × Obj)} {σ : St} {H : Hp} {s : Shared} {l b : Addr} {xs ys zs : List V}
theorem Inv.lset {its its' : List Value} {n : Nat} {f : Array Value → Array Value} {t' : Nat} (I : Inv X pins σ H s) (hH : H l = some (.lst xs))
   (e : s.heap.get? l = some { cls := .type "list", data := .seq its.toArray n }) (hf : f its.toArray = its'.toArray) (hv : Vals ys its') (hz : ys.length ≤ sizeLine) :
   Inv X pins σ (upd H l (.lst ys)) { s with heap := s.heap.update l (Obj.mapSeq f), toks := t' } := by
 have q := PySem.IsL.update e f
 rw [hf] at q
 refine I.write (x := l) (e := l) (by rw [hH]; exact trivial) (.inl rfl) (fun b' u hb hu => (Heap.get?_update_other s.heap (Obj.mapSeq f) (Ne.symm hb)).trans hu) ⟨_, q⟩ ?_
 exact ⟨hz, its', _, hv, q⟩
theorem Inv.lnew {its : List Value} {t' : Nat} (I : Inv X pins σ H s) (hv : Vals ys its) (hz : ys.length ≤ sizeLine) :
   Inv X pins σ (upd H s.heap.objs.size (.lst ys)) { s with heap := s.heap.push { cls := .type "list", data := .seq its.toArray }, toks := t' } :=
 I.laid (fun _ _ q => Heap.get?_push_of_some _ q) (Nat.le_refl _) ⟨hz, its, 0, hv, Heap.get?_push_size _ rfl⟩
theorem Inv.fresh (I : Inv X pins σ H s) : H s.heap.objs.size = none := I.hok.fresh (Nat.le_refl _)
theorem Inv.lstM (I : Inv X pins σ H s) (hH : H l = some (.lst xs)) : xs.length ≤ sizeLine ∧ ∃ (its : List Value) (n : Nat), Vals xs its ∧ xs.length = its.length ∧ s.heap.get? l = some { cls := .type "list", data := .seq its.toArray n } := by
 obtain ⟨z, its, n, r, e⟩ := I.hok l _ hH
 exact ⟨z, its, n, r, r.length, e⟩
theorem notLongL {n : Nat} (h : n ≤ sizeLine) : Builtin.List.listTooLong n = false := by
 unfold Builtin.List.listTooLong
 exact decide_eq_false (by omega)
end
section
variable {X : Cx}
def rAppend : V → List V → Hp → VK → Prop := fun x vs H Q => ∃ l xs y, x = .ref l ∧ vs = [y] ∧ H l = some (.lst xs) ∧ xs.length < sizeLine ∧ Q .non (upd H l (.lst (xs ++ [y])))
theorem mt_append : MtM X "list.append" rAppend := by
 intro pins s σ H x vs v us Q I rx rv h
 obtain ⟨l, xs, y, rfl, rfl, hH, hz, q⟩ := h
 cases rx
 obtain ⟨u, rfl, ru⟩ := rv.one
 obtain ⟨z, its, n, r, hl, e⟩ := I.lstM hH
 refine call_meets F.slot_list_append ⟨_, e, rfl⟩ F.entry_list_append (F.args_list_append_2 _ _) (PySem.list_append l its.toArray n u (by rw [List.size_toArray]; omega)) ⟨e, ?_⟩
 refine ⟨.non, _, I.lset (its' := its ++ [u]) hH e (by simp) (r.append (.cons ru .nil)) ?_, rfl, q⟩
 rw [List.length_append, List.length_singleton]
 omega
def rExtend : V → List V → Hp → VK → Prop := fun x vs H Q => ∃ l b xs zs, x = .ref l ∧ vs = [.ref b] ∧ H l = some (.lst xs) ∧ H b = some (.lst zs) ∧ xs.length + zs.length ≤ sizeLine ∧ Q .non (upd H l (.lst (xs ++ zs)))
theorem mt_extend : MtM X "list.extend" rExtend := by
 intro pins s σ H x vs v us Q I rx rv h
 obtain ⟨l, b, xs, zs, rfl, rfl, hH, hB, hz, q⟩ := h
 cases rx
 obtain ⟨u, rfl, ru⟩ := rv.one
 cases ru
 obtain ⟨z, its, n, r, hl, e⟩ := I.lstM hH
 obtain ⟨z2, its2, n2, r2, hl2, e2⟩ := I.lstM hB
 have hsz : its.toArray.size + its2.toArray.size ≤ sizeLine := by rw [List.size_toArray, List.size_toArray]; omega
 have hlong : ¬ (!its.toArray.isEmpty && Builtin.List.listTooLong (its.toArray.size + its2.toArray.size)) = true := by
   rw [notLongL hsz, Bool.and_false]
   exact Bool.false_ne_true
 refine call_meets F.slot_list_extend ⟨_, e, rfl⟩ F.entry_list_extend (F.args_list_extend_2 _ _)
   (AutoSeq1.list_extend_list_list_0 l its.toArray n b its2.toArray n2 hlong (by rw [List.size_toArray]; omega) (by omega)) ⟨e, e2, ?_⟩
 refine ⟨.non, _, I.lset (its' := its ++ its2) hH e (by simp) (r.append r2) ?_, rfl, q⟩
 rw [List.length_append]
 omega
def rPop : V → List V → Hp → VK → Prop := fun x vs H Q => ∃ l xs y, x = .ref l ∧ vs = [] ∧ H l = some (.lst xs) ∧ xs[xs.length - 1]? = some y ∧ Q y (upd H l (.lst xs.dropLast))
theorem mt_pop : MtM X "list.pop" rPop := by
 intro pins s σ H x vs v us Q I rx rv h
 obtain ⟨l, xs, y, rfl, rfl, hH, hy, q⟩ := h
 cases rx
 have hus := rv.zero
 subst hus
 obtain ⟨z, its, n, r, hl, e⟩ := I.lstM hH
 obtain ⟨u, hu, ru⟩ := r.get hy
 have hy' : its.toArray[its.toArray.size - 1]? = some u := by
   show its.toArray[its.length - 1]? = some u
   rw [← Array.getElem?_toList, ← hl]
   exact hu
 refine call_meets F.slot_list_pop ⟨_, e, rfl⟩ F.entry_list_pop (F.args_list_pop_1 _) (MeetsSeq.list_pop_last l its.toArray n u hy' (by rw [List.size_toArray]; omega)) ⟨e, ?_⟩
 refine ⟨y, _, I.lset (its' := its.dropLast) hH e ?_ r.dropLast ?_, ru, q⟩
 · show its.toArray.eraseIdxIfInBounds (its.toArray.size - 1) = its.dropLast.toArray
   rw [List.size_toArray, List.eraseIdxIfInBounds_toArray, erase_last]
 · rw [List.length_dropLast]
   omega
def rCat : R2 := fun x y H Q => ∃ l b xs zs, x = .ref l ∧ y = .ref b ∧ H l = some (.lst xs) ∧ H b = some (.lst zs) ∧ xs.length + zs.length ≤ sizeLine ∧ ∀ p, H p = none → Q (.ref p) (upd H p (.lst (xs ++ zs)))
theorem op_cat : OpR X (binaryOp .Add) rCat := by
 intro pins s σ H x y v u Q I rx ry h
 obtain ⟨l, b, xs, zs, rfl, rfl, hH, hB, hz, q⟩ := h
 cases rx
 cases ry
 obtain ⟨z, its, n, r, hl, e⟩ := I.lstM hH
 obtain ⟨z2, its2, n2, r2, hl2, e2⟩ := I.lstM hB
 refine PySem.P.add_list e e2 ?_ (by rw [List.size_toArray, List.size_toArray]; omega)
 have ea : its.toArray ++ its2.toArray = (its ++ its2).toArray := by simp
 rw [ea]
 exact ⟨.ref _, _, I.lnew (t' := s.toks) (r.append r2) (by rw [List.length_append]; omega), rfl, q _ I.fresh⟩
end
section
variable {prog : Program} {w : World} {A : Around} {E : Value → Shared → Prop} {s : Shared}
end
section
variable {X : Cx}
end
end L2
namespace L2
open PySem PySem.Spec PyProof.Rows
section
variable {κ : Type} [DecidableEq κ]
def valV (kvs : List (κ × V)) (k : κ) : Option V := (kvs.find? fun kv => decide (kv.1 = k)).map (·.2)
def putK (kvs : List (κ × V)) (k : κ) (v : V) : List (κ × V) :=
 if (kvs.any fun kv => decide (kv.1 = k)) = true then kvs.map (fun kv => if kv.1 = k then (kv.1, v) else kv) else kvs ++ [(k, v)]
def dropK (kvs : List (κ × V)) (k : κ) : List (κ × V) := kvs.filter fun kv => decide (kv.1 ≠ k)
theorem valV_pos {p : κ × V} {r : List (κ × V)} {k : κ} (e : p.1 = k) : valV (p :: r) k = some p.2 := by simp [valV, List.find?_cons, e]
theorem valV_neg {p : κ × V} {r : List (κ × V)} {k : κ} (e : ¬ p.1 = k) : valV (p :: r) k = valV r k := by simp [valV, List.find?_cons, e]
theorem valV_any (k : κ) : ∀ kvs : List (κ × V), (kvs.any fun kv => decide (kv.1 = k)) = (valV kvs k).isSome
 | [] => rfl
 | p :: r => by
   rw [List.any_cons]
   by_cases e : p.1 = k
   · simp only [valV_pos e, decide_eq_true e, Bool.true_or, Option.isSome_some]
   · rw [valV_neg e, decide_eq_false e, Bool.false_or]; exact valV_any k r
theorem length_putK (kvs : List (κ × V)) (k : κ) (v : V) : (putK kvs k v).length ≤ kvs.length + 1 := by
 unfold putK
 split
 · rw [List.length_map]; omega
 · rw [List.length_append, List.length_cons, List.length_nil]; omega
theorem RelO.isSome_eq {o : Option V} {u : Option Value} (r : RelO o u) : o.isSome = u.isSome := by
 cases o with
 | none => cases u with
   | none => rfl
   | some _ => exact (show False from r).elim
 | some _ => cases u with
   | none => exact (show False from r).elim
   | some _ => rfl
theorem RelO.getD {o : Option V} {u : Option Value} {d : V} {d' : Value} (r : RelO o u) (rd : RelV d d') : RelV (o.getD d) (u.getD d') := by
 cases o with
 | none => cases u with
   | none => exact rd
   | some _ => exact (show False from r).elim
 | some _ => cases u with
   | none => exact (show False from r).elim
   | some _ => exact r
theorem KV.val {kvs : List (κ × V)} {vs : List (κ × Value)} (r : KV kvs vs) (k : κ) : RelO (valV kvs k) (valueAt vs k) := by
 unfold KV at r
 induction r with
 | nil => exact True.intro
 | @cons p q ps qs h t ih =>
   obtain ⟨h1, h2⟩ := h
   by_cases e : p.1 = k
   · have e' : q.1 = k := h1.symm.trans e
     have b : valueAt (q :: qs) k = some q.2 := by simp [valueAt, List.find?_cons, e']
     rw [valV_pos e, b]; exact h2
   · have e' : ¬ q.1 = k := fun z => e (h1.trans z)
     have b : valueAt (q :: qs) k = valueAt qs k := by simp [valueAt, List.find?_cons, e']
     rw [valV_neg e, b]; exact ih
theorem KV.any {kvs : List (κ × V)} {vs : List (κ × Value)} (r : KV kvs vs) (k : κ) : (kvs.any fun kv => decide (kv.1 = k)) = vs.any fun kv => decide (kv.1 = k) := by
 unfold KV at r
 induction r with
 | nil => rfl
 | cons h t ih => rw [List.any_cons, List.any_cons, ih, h.1]
theorem KV.repl {kvs : List (κ × V)} {vs : List (κ × Value)} (r : KV kvs vs) (k : κ) {y : V} {u : Value} (ry : RelV y u) :
   KV (kvs.map fun kv => if kv.1 = k then (kv.1, y) else kv) (vs.map fun kv => if kv.1 = k then (kv.1, u) else kv) := by
 unfold KV at r ⊢
 induction r with
 | nil => exact .nil
 | @cons p q ps qs h t ih =>
   rw [List.map_cons, List.map_cons]
   refine .cons ?_ ih
   obtain ⟨h1, h2⟩ := h
   by_cases e : p.1 = k
   · rw [if_pos e, if_pos (h1.symm.trans e)]; exact ⟨h1, ry⟩
   · rw [if_neg e, if_neg (fun z => e (h1.trans z))]; exact ⟨h1, h2⟩
theorem KV.put {kvs : List (κ × V)} {vs : List (κ × Value)} (r : KV kvs vs) (k : κ) {y : V} {u : Value} (ry : RelV y u) : KV (putK kvs k y) (stored vs k u) := by
 unfold putK stored
 rw [r.any k]
 by_cases e : (vs.any fun kv => decide (kv.1 = k)) = true
 · rw [if_pos e, if_pos e]; exact r.repl k ry
 · rw [if_neg e, if_neg e]; exact Paired.snoc r ⟨rfl, ry⟩
theorem KV.drop {kvs : List (κ × V)} {vs : List (κ × Value)} (r : KV kvs vs) (k : κ) : KV (dropK kvs k) (without vs k) := by
 unfold KV at r ⊢
 unfold dropK without
 induction r with
 | nil => exact .nil
 | @cons p q ps qs h t ih =>
   obtain ⟨h1, h2⟩ := h
   rw [List.filter_cons, List.filter_cons]
   by_cases e : p.1 = k
   · have a : ¬ decide (p.1 ≠ k) = true := by simp [e]
     have b : ¬ decide (q.1 ≠ k) = true := by simp [h1.symm.trans e]
     rw [if_neg a, if_neg b]; exact ih
   · have e' : ¬ q.1 = k := fun z => e (h1.trans z)
     have a : decide (p.1 ≠ k) = true := by simp [e]
     have b : decide (q.1 ≠ k) = true := by simp [e']
     rw [if_pos a, if_pos b]; exact .cons ⟨h1, h2⟩ ih
theorem KV.keys {kvs : List (κ × V)} {vs : List (κ × Value)} (r : KV kvs vs) : kvs.map (·.1) = vs.map (·.1) := by
 unfold KV at r
 induction r with
 | nil => rfl
 | cons h t ih => rw [List.map_cons, List.map_cons, ih, h.1]
theorem KV.length {kvs : List (κ × V)} {vs : List (κ × Value)} (r : KV kvs vs) : kvs.length = vs.length := Paired.length r
end
theorem kV_is {P : Program} {w : World} {k : Key} {u : Value} (r : RelV (kV k) u) : (mixKind P w).is k u = true := by
 cases k with
 | inl i => obtain ⟨t, e⟩ := (show ∃ t, u = Value.int i t from r); subst e; exact mixKind_int P w i t
 | inr x => obtain ⟨t, e⟩ := (show ∃ t, u = Value.str x t from r); subst e; exact mixKind_str P w x t
theorem items_are {P : Program} {w : World} : ∀ {ks : List Key} {us : List Value}, Vals (ks.map kV) us → ItemsAre (mixKind P w) ks us
 | [], _, r => by rw [List.map_nil] at r; cases r; exact .nil
 | k :: ks, _, r => by
   rw [List.map_cons] at r
   cases r with
   | cons h t => exact .cons (kV_is h) (items_are t)
abbrev KT (H : Hp) : List (List Key × V) → List (List Key × Addr × Value) → Prop := Paired fun p q => p.1 = q.1 ∧ H q.2.1 = some (.tup (p.1.map kV)) ∧ RelV p.2 q.2.2
theorem KT.val {H : Hp} {kvs : List (List Key × V)} {xs : List (List Key × Addr × Value)} (r : KT H kvs xs) (k : List Key) : RelO (valV kvs k) ((atKey xs k).map (·.2)) := by
 induction r with
 | nil => exact True.intro
 | @cons p q ps qs h t ih =>
   obtain ⟨h1, _, h2⟩ := h
   by_cases e : p.1 = k
   · have e' : q.1 = k := h1.symm.trans e
     have b : atKey (q :: qs) k = some q.2 := by simp [atKey, List.find?_cons, e']
     rw [valV_pos e, b]; exact h2
   · have e' : ¬ q.1 = k := fun z => e (h1.trans z)
     have b : atKey (q :: qs) k = atKey qs k := by simp [atKey, List.find?_cons, e']
     rw [valV_neg e, b]; exact ih
theorem KT.repl {H : Hp} {kvs : List (List Key × V)} {xs : List (List Key × Addr × Value)} (r : KT H kvs xs) (k : List Key) {y : V} {u : Value} (ry : RelV y u) :
   KT H (kvs.map fun kv => if kv.1 = k then (kv.1, y) else kv) (xs.map (putAt k u)) := by
 induction r with
 | nil => exact .nil
 | @cons p q ps qs h t ih =>
   rw [List.map_cons, List.map_cons]
   refine .cons ?_ ih
   obtain ⟨h1, h2, h3⟩ := h
   unfold putAt
   by_cases e : p.1 = k
   · rw [if_pos e, if_pos (h1.symm.trans e)]; exact ⟨h1, h2, ry⟩
   · rw [if_neg e, if_neg (fun z => e (h1.trans z))]; exact ⟨h1, h2, h3⟩
theorem KT.put {H : Hp} {kvs : List (List Key × V)} {xs : List (List Key × Addr × Value)} (r : KT H kvs xs) (k : List Key) {b : Addr} {y : V} {u : Value} (hb : H b = some (.tup (k.map kV))) (ry : RelV y u) :
   KT H (putK kvs k y) (storedH xs k b u) := by
 have e : (kvs.any fun kv => decide (kv.1 = k)) = (atKey xs k).isSome := by
   rw [valV_any, (r.val k).isSome_eq, Option.isSome_map]
 unfold putK storedH
 rw [e]
 by_cases q : (atKey xs k).isSome = true
 · rw [if_pos q, if_pos q]; exact r.repl k ry
 · rw [if_neg q, if_neg q]; exact Paired.snoc r ⟨rfl, hb, ry⟩
theorem KT.keeps {H H' : Hp} {kvs : List (List Key × V)} {xs : List (List Key × Addr × Value)} (r : KT H kvs xs) (ht : ∀ b ys, H b = some (.tup ys) → H' b = some (.tup ys)) : KT H' kvs xs :=
 Paired.mapP r fun _ _ z => ⟨z.1, ht _ _ z.2.1, z.2.2⟩
section
variable {P : Program} {w : World} {H : Hp} {h : Heap} {a : Addr}
theorem rd_of {u : HO} (ok : HOk P w H h) (e : Rd H a u) : ObjOk P w H h a u := e.ok ok
theorem dk_rd {kvs : List (Key × V)} (ok : HOk P w H h) (e : Rd H a (.dK kvs)) : kvs.length ≤ sizeLine ∧ (a == sysModules) = false ∧ ∃ vs, KV kvs vs ∧ h.DictOf (mixKind P w) a vs :=
 show ObjOk P w H h a (.dK kvs) from rd_of ok e
theorem dk_of {kvs : List (Key × V)} (ok : HOk P w H h) (e : H a = some (.dK kvs)) : kvs.length ≤ sizeLine ∧ (a == sysModules) = false ∧ ∃ vs, KV kvs vs ∧ h.DictOf (mixKind P w) a vs := dk_rd ok (.inl e)
theorem key_of {ks : List Key} (ok : HOk P w H h) (e : H a = some (.tup (ks.map kV))) : (tupleKind (mixKind P w)).is h ks a := by
 obtain ⟨_, its, r, o, h1, h2, n, h3⟩ := (show ObjOk P w H h a (.tup (ks.map kV)) from ok a _ e)
 exact ⟨o, its.toArray, n, h1, h2, h3, by simpa using items_are r⟩
theorem dt_rd {kvs : List (List Key × V)} (ok : HOk P w H h) (e : Rd H a (.dT kvs)) : kvs.length ≤ sizeLine ∧ (a == sysModules) = false ∧
   ∃ xs, KT H kvs xs ∧ h.DictOfH (tupleKind (mixKind P w)) a xs := by
 obtain ⟨z, y, xs, r, o, es, ep, h1, h2, h3, h4, h5⟩ := (show ObjOk P w H h a (.dT kvs) from rd_of ok e)
 refine ⟨z, y, xs, r, o, es, ep, h1, h2, h3, h4, fun x hx => ?_, h5⟩
 have all : ∀ {l : List (List Key × V)} {m : List (List Key × Addr × Value)}, KT H l m → ∀ x ∈ m, (tupleKind (mixKind P w)).is h x.1 x.2.1 := by
   intro l m q
   induction q with
   | nil => intro x hx; exact nomatch hx
   | @cons p q ps qs hq t ih =>
     intro x hx
     rcases List.mem_cons.mp hx with e | hx
     · subst e
       exact key_of ok (by rw [← hq.1]; exact hq.2.1)
     · exact ih x hx
 exact all r x hx
theorem dt_of {kvs : List (List Key × V)} (ok : HOk P w H h) (e : H a = some (.dT kvs)) : kvs.length ≤ sizeLine ∧ (a == sysModules) = false ∧
   ∃ xs, KT H kvs xs ∧ h.DictOfH (tupleKind (mixKind P w)) a xs := dt_rd ok (.inl e)
end
def DGet (H : Hp) (a : Addr) (y : V) (r : Option V) : Prop :=
 (∃ kvs k, Rd H a (.dK kvs) ∧ y = kV k ∧ r = valV kvs k) ∨ ∃ kvs k b, Rd H a (.dT kvs) ∧ y = .ref b ∧ H b = some (.tup (k.map kV)) ∧ r = valV kvs k
def DPut (H : Hp) (a : Addr) (y v : V) (H' : Hp) : Prop :=
 (∃ kvs k, H a = some (.dK kvs) ∧ y = kV k ∧ kvs.length < sizeLine ∧ H' = upd H a (.dK (putK kvs k v))) ∨
 ∃ kvs k b, H a = some (.dT kvs) ∧ y = .ref b ∧ H b = some (.tup (k.map kV)) ∧ kvs.length < sizeLine ∧ H' = upd H a (.dT (putK kvs k v))
theorem DGet.k {H : Hp} {a : Addr} {kvs : List (Key × V)} {k : Key} (e : H a = some (.dK kvs)) : DGet H a (kV k) (valV kvs k) := .inl ⟨kvs, k, .inl e, rfl, rfl⟩
theorem DGet.t {H : Hp} {a b : Addr} {kvs : List (List Key × V)} {k : List Key} (e : H a = some (.dT kvs)) (eb : H b = some (.tup (k.map kV))) : DGet H a (.ref b) (valV kvs k) := .inr ⟨kvs, k, b, .inl e, rfl, eb, rfl⟩
theorem DPut.k {H : Hp} {a : Addr} {kvs : List (Key × V)} {k : Key} {v : V} (e : H a = some (.dK kvs)) (hl : kvs.length < sizeLine) : DPut H a (kV k) v (upd H a (.dK (putK kvs k v))) := .inl ⟨kvs, k, e, rfl, hl, rfl⟩
theorem DPut.t {H : Hp} {a b : Addr} {kvs : List (List Key × V)} {k : List Key} {v : V} (e : H a = some (.dT kvs)) (eb : H b = some (.tup (k.map kV))) (hl : kvs.length < sizeLine) :
   DPut H a (.ref b) v (upd H a (.dT (putK kvs k v))) := .inr ⟨kvs, k, b, e, rfl, eb, hl, rfl⟩
section
variable {X : Cx} {pins : List (Addr × Obj)} {σ : St} {H : Hp} {s : Shared} {a : Addr} {y v : V} {u r : Value} {o : Option V} {A : Around} {E : Value → Shared → Prop}
theorem Inv.big (I : Inv X pins σ H s) : sysModules < s.heap.objs.size := by
 have h : mainGlobals < s.heap.objs.size := (I.mod.glob.keeps I.bk).lt
 exact Nat.lt_trans (by decide) h
theorem d_getItem {Q : Value → Shared → Prop} (hu : A.units + 1 < cLine) (I : Inv X pins σ H s) (g : DGet H a y (some v)) (ry : RelV y u) (h : ∀ w' s', Inv X pins σ H s' → RelV v w' → Q w' s') :
   wpAny (model X.prog X.w) A (getItem (.ref a) u) Q E s := by
 rcases g with ⟨kvs, k, e, ey, l⟩ | ⟨kvs, k, b, e, ey, eb, l⟩
 · subst ey
   obtain ⟨z, hd, vs, rel, dd⟩ := dk_rd I.hok e
   obtain ⟨w', hw, rw'⟩ := RelO.some_of (v := v) (o := valueAt vs k) (by rw [l]; exact rel.val k)
   exact wpAny_getItem_of (kV_is ry) dd.mapOf hw (h w' _ (I.tok _) rw')
 · subst ey
   cases (show u = Value.ref b from ry)
   obtain ⟨z, hd, xs, rel, dd⟩ := dt_rd I.hok e
   obtain ⟨w', hw, rw'⟩ := RelO.some_of (v := v) (o := (atKey xs k).map (·.2)) (by rw [l]; exact rel.val k)
   obtain ⟨p, hp, hp2⟩ := Option.map_eq_some_iff.mp hw
   refine wpAny_getItem_heap (tupleKind_room_in1 hu) (key_of I.hok eb) dd hp ?_
   rw [hp2]
   exact h w' _ (I.tok _) rw'
theorem d_write {h' : Heap} {t' : Nat} {ob : HO} (I : Inv X pins σ H s) (mu : Mut (H a)) (hs : Heap.SameBut a s.heap h') (he : ∃ q, h'.get? a = some q) (new : ObjOk X.prog X.w (upd H a ob) h' a ob) :
   Inv X pins σ (upd H a ob) { s with heap := h', toks := t' } :=
 I.write (x := a) (e := a) mu (.inl rfl) (fun b q hb z => (hs.2 b hb).trans z) he new
theorem dk_new {P : Program} {w : World} {H' : Hp} {h' : Heap} {kvs : List (Key × V)} {vs : List (Key × Value)} (z : kvs.length ≤ sizeLine) (hd : (a == sysModules) = false) (rel : KV kvs vs) (dd : h'.DictOf (mixKind P w) a vs) :
   ObjOk P w H' h' a (.dK kvs) := ⟨z, hd, vs, rel, dd⟩
theorem d_setItem {H' : Hp} {Q : Unit → Shared → Prop} (hu : A.units + 1 < cLine) (I : Inv X pins σ H s) (g : DPut H a y v H') (ry : RelV y u) (rv : RelV v r) (h : ∀ s', Inv X pins σ H' s' → Q () s') :
   wpAny (model X.prog X.w) A (setItem (.ref a) u r) Q E s := by
 rcases g with ⟨kvs, k, e, ey, l, eH⟩ | ⟨kvs, k, b, e, ey, eb, l, eH⟩
 · subst ey eH
   obtain ⟨z, hd, vs, rel, dd⟩ := dk_of I.hok e
   have hz : vs.length ≤ sizeLine := by rw [← rel.length]; exact z
   have hl : (putK kvs k v).length ≤ sizeLine := by have := length_putK kvs k v; omega
   refine wpAny_setItem_pairs (hsz := hz) (kV_is ry) dd fun h' dd' hs => h _ ?_
   have he : ∃ q, h'.get? a = some q := let ⟨q, _, _, hq, _⟩ := dd'; ⟨q, hq⟩
   exact d_write I (by rw [e]; exact True.intro) hs he (dk_new hl hd (rel.put k rv) dd')
 · subst ey eH
   cases (show u = Value.ref b from ry)
   obtain ⟨z, hd, xs, rel, dd⟩ := dt_of I.hok e
   have hz : xs.length ≤ sizeLine := by rw [← Paired.length rel]; exact z
   have hl : (putK kvs k v).length ≤ sizeLine := by have := length_putK kvs k v; omega
   refine wpAny_setItem_heap (hsz := hz) (tupleKind_room_in1 hu) (key_of I.hok eb) dd fun h' dd' hs => h _ ?_
   obtain ⟨q, es, ep, hq, h2, h3, h4, _, h5⟩ := dd'
   refine d_write I (by rw [e]; exact True.intro) hs ⟨q, hq⟩ ⟨hl, hd, _, (rel.put k eb rv).keeps fun c ys ec => ?_, q, es, ep, hq, h2, h3, h4, h5⟩
   rw [upd_ne (ne_of ec e (fun z => nomatch z))]
   exact ec
end
section
variable {X : Cx} {pins : List (Addr × Obj)} {σ : St} {H : Hp} {s : Shared} {a : Addr} {kvs : List (Key × V)} {k : Key} {u : Value} {A : Around} {E : Value → Shared → Prop}
end
def NoSl (i : Expr) : Prop := ∀ ov iv, subscripted i false ov iv = operate [ov, iv] (getItem ov iv)
theorem subD_of {prog : Program} {w : World} {A : Around} {E : Value → Shared → Prop} {s : Shared} {env : Env} {value slice : Expr} {pos : Pos} {T id : String} {Q : Value → Shared → Prop}
   (hl : typeLookup (.type T) "__getitem__" = pure (some (.builtin id))) (hs : NoSl slice)
   (h : wpAny (model prog w) A (eval value env) (fun o s₁ => wpAny (model prog w) A (eval slice env) (fun i s₂ => s₂.TypeIs o T ∧ wpAny (model prog w) A (getItem o i) Q E s₂) E s₁) E s) :
   wpAny (model prog w) A (eval (.Subscript value slice pos) env) Q E s := by
 refine Subscript_ (wpAny_mono h (fun o s₁ h₁ => wpAny_mono h₁ (fun i s₂ h₂ => ?_) fun _ _ x => x) fun _ _ x => x)
 obtain ⟨hT, h₂⟩ := h₂
 unfold subscriptTail
 refine wpAny_bind ?_
 rw [getitemInPython_of_ne hT.not_modules]
 refine wpAny_bind (wpAny_specialOf hT hl ?_)
 have fin : wpAny (model prog w) A (subscripted slice false o i) (fun r s₃ => wpAny (model prog w) A (letTemporaryGo value o r >>= fun _ => pure r) Q E s₃) E s₂ := by
   rw [hs o i]
   exact wpAny_operating (wpAny_mono h₂ (fun r s₃ h₃ => wpAny_bind (wpAny_letTemporaryGo (wpAny_pure h₃))) fun _ _ x => x)
 first
   | exact wpAny_pure (wpAny_bind fin)
   | exact wpAny_bind (wpAny_pure (wpAny_bind fin))
   | exact wpAny_bind fin
theorem dict_typeIs {X : Cx} {pins : List (Addr × Obj)} {σ : St} {H : Hp} {s : Shared} {a : Addr} {y : V} {o : Option V} (I : Inv X pins σ H s) (g : DGet H a y o) : s.TypeIs (.ref a) "dict" := by
 rcases g with ⟨kvs, k, e, _, _⟩ | ⟨kvs, k, b, e, _, _, _⟩
 · obtain ⟨_, _, vs, _, dd⟩ := dk_rd I.hok e
   exact dd.typeIs
 · obtain ⟨_, _, xs, _, dd⟩ := dt_rd I.hok e
   exact dd.typeIs
def tDGet (td ty : TE) : TE := fun σ H Q => td σ H fun x H1 => ty σ H1 fun y H2 => ∃ a v, x = .ref a ∧ DGet H2 a y (some v) ∧ Q v H2
def sDPut (td ty tv : TE) : TS := fun D σ H => tv σ H fun v H1 => td σ H1 fun x H2 => ty σ H2 fun y H3 => ∃ a H4, x = .ref a ∧ DPut H3 a y v H4 ∧ D.nx σ H4
section
variable {X : Cx} {o i e value : Expr} {pos pos' tpos : Pos} {td ty tv : TE}
theorem pe_dget (hu : X.A.units + 1 < cLine) (ho : PE X o td) (hi : PE X i ty) (hs : NoSl i) : PE X (.Subscript o i pos) (tDGet td ty) := by
 intro pins s σ H Q I h
 refine subD_of PySem.F.slot_dict_getitem.lookup hs (thn (ho pins s σ H _ I h) fun u s1 ⟨x, H1, I1, rx, q1⟩ => thn (hi pins s1 σ H1 _ I1 q1) fun iv s2 ⟨y, H2, I2, ry, a, v, ex, g, q2⟩ => ?_)
 subst ex
 obtain rfl : u = Value.ref a := rx
 exact ⟨dict_typeIs I2 g, d_getItem hu I2 g ry fun w' s3 I3 rw' => ⟨v, H2, I3, rw', q2⟩⟩
theorem ps_dput (hu : X.A.units + 1 < cLine) (ho : PE X o td) (hi : PE X i ty) (hv : PE X value tv) (hs : swapsWith value (some (.Subscript o i pos')) pos.line X.env = pure false) :
   PS X (.Assign [.Subscript o i pos'] value pos) (sDPut td ty tv) := by
 intro pins s σ H D I h
 refine wpAny_Assign_Subscript (thn (hv pins s σ H _ I h) fun r s1 ⟨v, H1, I1, rv, q1⟩ => thn (ho pins s1 σ H1 _ I1 q1) fun u s2 ⟨x, H2, I2, rx, q2⟩ => thn (hi pins s2 σ H2 _ I2 q2) fun iv s3 ⟨y, H3, I3, ry, a, H4, ex, g, q3⟩ => ?_) hs
 subst ex
 obtain rfl : u = Value.ref a := rx
 exact d_setItem hu I3 g ry rv fun s4 I4 => ⟨σ, H4, I4, q3⟩
end
theorem dk_empty {P : Program} {w : World} {H : Hp} (h : Heap) (hb : sysModules < h.objs.size) : ObjOk P w H (h.push { cls := .type "dict", data := .dict #[] }) h.objs.size (.dK []) :=
 ⟨Nat.zero_le _, beq_eq_false_iff_ne.mpr (Ne.symm (Nat.ne_of_lt hb)), [], .nil, Heap.DictOf.new h⟩
theorem dt_empty {P : Program} {w : World} {H : Hp} (h : Heap) (hb : sysModules < h.objs.size) : ObjOk P w H (h.push { cls := .type "dict", data := .dict #[] }) h.objs.size (.dT []) :=
 ⟨Nat.zero_le _, beq_eq_false_iff_ne.mpr (Ne.symm (Nat.ne_of_lt hb)), [], .nil, _, #[], 0, Heap.get?_push_size _ rfl, ⟨rfl, rfl, rfl⟩, rfl, rfl, List.nodup_nil⟩
def tDNewK : TE := fun _ H Q => ∀ p, H p = none → Q (.ref p) (upd H p (.dK []))
def tDNewT : TE := fun _ H Q => ∀ p, H p = none → Q (.ref p) (upd H p (.dT []))
section
variable {X : Cx} {pos : Pos}
theorem pe_dnewK : PE X (.Dict [] [] pos) tDNewK := fun pins s σ H Q I h =>
 wpAny_Dict_empty ⟨.ref s.heap.objs.size, _, I.laid (a := s.heap.objs.size) (o := .dK []) (t' := s.toks) (fun _ _ q => Heap.get?_push_of_some _ q) (Nat.le_refl _) (dk_empty s.heap I.big), rfl, h _ (I.hok.fresh (Nat.le_refl _))⟩
theorem pe_dnewT : PE X (.Dict [] [] pos) tDNewT := fun pins s σ H Q I h =>
 wpAny_Dict_empty ⟨.ref s.heap.objs.size, _, I.laid (a := s.heap.objs.size) (o := .dT []) (t' := s.toks) (fun _ _ q => Heap.get?_push_of_some _ q) (Nat.le_refl _) (dt_empty s.heap I.big), rfl, h _ (I.hok.fresh (Nat.le_refl _))⟩
end
structure M2 (X : Cx) (o : Expr) (m : Str) (apos : Pos) (e f : Expr) (cpos : Pos) : Prop where
 base : attributeBase o m X.env (eval o X.env) = eval o X.env
 few : ((backTo cpos (starEach [e, f] X.env)).all (fun x => !x.1) && (backToKw cpos (keywordEach [] X.env)).all (fun x => x.1.isSome)
   && decide (([e, f] : List Expr).length + ([] : List Keyword).length + (if ([] : List Keyword).isEmpty then 0 else 1) < 30)) = true
 line : (apos.endLine == cpos.line) = true
 trees : backTo cpos (starEach [e, f] X.env) = [(false, eval e X.env), (false, eval f X.env)]
def IsD (H : Hp) (a : Addr) : Prop := (∃ kvs, Rd H a (.dK kvs)) ∨ ∃ kvs, Rd H a (.dT kvs)
theorem isD_at {X : Cx} {pins : List (Addr × Obj)} {σ : St} {H : Hp} {s : Shared} {a : Addr} (I : Inv X pins σ H s) (d : IsD H a) :
   s.TypeIs (.ref a) "dict" ∧ (∀ b, Value.ref a = .ref b → ∃ ob, s.heap.get? b = some ob ∧ ob.dict = none) ∧ (a == sysModules) = false := by
 rcases d with ⟨kvs, e⟩ | ⟨kvs, e⟩
 · obtain ⟨_, hd, vs, _, dd⟩ := dk_rd I.hok e
   refine ⟨dd.typeIs, fun b q => ?_, hd⟩
   cases q
   obtain ⟨ob, _, _, h1, h2, _⟩ := dd
   exact ⟨ob, h1, h2.2.1⟩
 · obtain ⟨_, hd, xs, _, dd⟩ := dt_rd I.hok e
   refine ⟨dd.typeIs, fun b q => ?_, hd⟩
   cases q
   obtain ⟨ob, _, _, h1, h2, _⟩ := dd
   exact ⟨ob, h1, h2.2.1⟩
section
variable {X : Cx} {pins : List (Addr × Obj)} {σ : St} {H : Hp} {s : Shared} {a : Addr} {y d : V} {u r : Value} {o : Option V} {A : Around} {E : Value → Shared → Prop}
theorem d_get2 {Q : Value → Shared → Prop} (hu : A.units + 1 < cLine) (I : Inv X pins σ H s) (g : DGet H a y o) (ry : RelV y u) (rd : RelV d r) (h : ∀ w' s', Inv X pins σ H s' → RelV (o.getD d) w' → Q w' s') :
   wpAny (model X.prog X.w) A (call (.builtin "dict.get") [.ref a, u, r]) Q E s := by
 rcases g with ⟨kvs, k, e, ey, l⟩ | ⟨kvs, k, b, e, ey, eb, l⟩
 · subst ey
   obtain ⟨z, hd, vs, rel, dd⟩ := dk_rd I.hok e
   refine call_meetsIn PySem.F.slot_dict_get dd.typeIs PySem.F.entry_dict_get (PySem.F.args_dict_get_3 _ _ _) (meets_dict_get_default (mixKind X.prog X.w) a (kV_is ry) hd r) ⟨_, dd.mapOf, h _ _ (I.tok _) ?_⟩
   rw [l]
   exact (rel.val k).getD rd
 · subst ey
   cases (show u = Value.ref b from ry)
   obtain ⟨z, hd, xs, rel, dd⟩ := dt_rd I.hok e
   refine call_meetsIn PySem.F.slot_dict_get dd.typeIs PySem.F.entry_dict_get (PySem.F.args_dict_get_3 _ _ _) (meetsH_dict_get_default (tupleKind (mixKind X.prog X.w)) a b hd r) ⟨tupleKind_room_in1 hu, k, xs, key_of I.hok eb, dd, h _ _ (I.tok _) ?_⟩
   rw [l]
   exact (rel.val k).getD rd
end
def tDGet2 (td ty tx : TE) : TE := fun σ H Q => td σ H fun x H1 => ∃ a, x = .ref a ∧ IsD H1 a ∧ ty σ H1 fun y H2 => tx σ H2 fun z H3 => ∃ o, DGet H3 a y o ∧ Q (o.getD z) H3
section
variable {X : Cx} {o e f : Expr} {apos cpos : Pos} {td ty tx : TE}
theorem pe_dget2 (hu : X.A.units + 1 < cLine) (ho : PE X o td) (he : PE X e ty) (hf : PE X f tx) (m : M2 X o "get" apos e f cpos) : PE X (.Call (.Attribute o "get" apos) [e, f] [] cpos) (tDGet2 td ty tx) := by
 intro pins s σ H Q I h
 refine wpAny_Call_method m.base m.few m.line PySem.F.plainAttrs_dict PySem.F.slot_dict_get PySem.F.type_dict_get (thn (ho pins s σ H _ I h) fun u s1 ⟨x, H1, I1, rx, a, ex, d, q1⟩ => ?_)
 subst ex
 obtain rfl : u = Value.ref a := rx
 obtain ⟨t1, t2, _⟩ := isD_at I1 d
 refine ⟨t1, t2, ?_⟩
 rw [m.trees]
 refine Calls.callWith_builtin rfl (Calls.evalArgs_plain (Calls.spliced_cons (thn (he pins s1 σ H1 _ I1 q1) fun iv s2 ⟨y, H2, I2, ry, q2⟩ =>
   Calls.spliced_cons (thn (hf pins s2 σ H2 _ I2 q2) fun fv s3 ⟨z, H3, I3, rz, ov, g, q3⟩ => Calls.spliced_nil ?_))))
 exact d_get2 hu I3 g ry rz fun w' s4 I4 rw' => ⟨_, H3, I4, rw', q3⟩
end
section
variable {X : Cx} {pins : List (Addr × Obj)} {σ : St} {H : Hp} {s : Shared} {a : Addr} {kvs : List (Key × V)} {A : Around} {E : Value → Shared → Prop}
end
section
variable {X : Cx} {pins : List (Addr × Obj)} {σ : St} {H : Hp} {s : Shared} {a : Addr} {y : V} {u : Value} {A : Around} {E : Value → Shared → Prop}
end
end L2
namespace Att
open PySem PySem.W PySem.Calls PyProof.Rows
theorem ints_of_wellAll {P : Params} {h : Heap} : ∀ (ns : List Int) (vs : List Value), WellAll P h vs (ns.map WData.int) → IntsAre vs ns := by
 intro ns
 induction ns with
 | nil =>
   intro vs w
   rw [List.map_nil] at w
   cases w
   exact .nil
 | cons n ns ih =>
   intro vs w
   rw [List.map_cons] at w
   cases w with
   | cons a b =>
     cases a
     exact .cons _ _ (ih _ b)
theorem script_of {l : OpenLaw} {n : Nat} (hn : l.most = some n) {P : Params} {h : Heap} {args : List WData} {vals : List Value}
   (hpre : l.row.toRowW.claim.pre args = true) (hwl : WellAll P h vals args) :
   ∃ a vs ns, vals = [Value.ref a] ∧ args = [WData.list (ns.map WData.int)] ∧ h.get? a = some { cls := .type "list", data := .seq vs.toArray } ∧ IntsAre vs ns ∧ ns.length ≤ n := by
 have hsh : WShape.hasAll [] args [.list .int] = true := (pre_splitW hpre).1
 have hc : l.pre.holds [] { args := args } = true := (pre_splitW hpre).2
 obtain ⟨d, r, rfl, h1, h2⟩ := hasAllW_cons hsh
 obtain rfl := hasAllW_nil h2
 obtain ⟨xs, rfl, h3⟩ := hasW_list h1
 obtain ⟨ns, rfl⟩ := items_int h3
 have hlen : ns.length ≤ n := by
   unfold OpenLaw.pre at hc
   have h4 : (WTm.not (.lt (.lit (.int (n : Int))) (.len (.arg 0)))).holds [] { args := [.list (ns.map .int)] } = true := by
     have h4 := (holds_andW hc).1
     rw [hn] at h4
     exact h4
   have h5 := condW_of h4 (w_not (w_lt w_lit (w_len_list (w_arg rfl))))
   rw [List.length_map] at h5
   refine Nat.le_of_not_lt fun q => ?_
   have q' : (n : Int) < ((ns.length : Nat) : Int) := by omega
   first
     | (rw [decide_eq_true q'] at h5; exact absurd h5 (by decide))
     | (simp at h5; omega)
 cases hwl with
 | cons w1 w2 =>
   cases w2
   cases w1 with
   | list ho hall => exact ⟨_, _, ns, rfl, rfl, ho, ints_of_wellAll ns _ hall, hlen⟩
theorem post_true (l : OpenLaw) (args : List WData) : l.row.toRowW.claim.post args (.bool true) args = true :=
 postW_of (r := l.row.toRowW) (X := (true == true))
   (show WShape.has [] (.bool true) .bool = true by first | rfl | decide | simp [WShape.has, WShape.arms, WShape.armsAll])
   (show (WTm.eq .res (.lit (.bool true))).value [] { args := args, res := some (.bool true), after := args } = some (.bool (true == true)) from w_eq_bool (w_res rfl) w_lit) rfl
theorem attach_call {l : OpenLaw} {n : Nat} {q : Program} {loose : List Str} {XP : (Str → Option Value) → Heap → Prop} {YP : World → Heap → Prop} {d : DefRec}
   (hn : l.most = some n) (hdf : d.params.defaults = [])
   (call : ∀ (w : World) (s₀ s₁ : Shared) (mg mb : Str → Option Value) (fa : Addr) (o : Obj) (pm cd doc : Value) (a : Addr) (vs : List Value) (ns : List Int),
     Ground q loose [] XP w s₀ mg mb s₁.heap → YP w s₁.heap →
     s₁.heap.get? fa = some o → o.data = .func (docDef d.name d.params d.body d.scope pm cd doc) → s₁.heap.CodeRec cd d.name → mg d.name = some (.ref fa) →
     s₁.heap.get? a = some { cls := .type "list", data := .seq vs.toArray } → IntsAre vs ns → ns.length ≤ n → s₁.gens = #[] →
     codeAny (model l.prog w) callerA (.call (.ref fa) ⟨[.ref a], []⟩) (fun r s' => r = .ok (.ret (.bool true)) ∧ OldK s₁.heap s'.heap ∧ s'.os = s₁.os ∧ AllBare s'.gens) s₁) :
   WalkO q loose XP YP l.row.toRowW d [] (fun f vs => PySem.call f vs) := by
 intro w s₀ s₁ mg mb G Y fa o pm cd doc dV kV ho hd hcd hD hmg hg args vals as hpre hlay hrd hwl hlo
 obtain rfl : dV = .none := Dflts.none hD hdf
 obtain rfl : kV = .none := Dflts.noKw hD
 obtain ⟨a, vs, ns, rfl, rfl, hobj, hints, hlen⟩ := script_of hn hpre hwl
 refine enter_call (codeAny_mono (call w s₀ s₁ mg mb fa o pm cd doc a vs ns G Y ho (fd_plain hd) hcd hmg hobj hints hlen hg) fun r s' hq => ?_)
 obtain ⟨rfl, h2, h3, h4⟩ := hq
 exact ⟨.inl ⟨.bool true, .bool true, [], rfl, fun _ => rfl, .bool true, post_true l _, fun _ => ⟨List.Pairwise.nil, fun _ hm => (nomatch hm)⟩⟩, h2, h3, h4⟩
section
variable {prog : Program} {w : World} {A : Around} {E : Value → Shared → Prop} {s : Shared} {K : Frag}
end
end Att
namespace L2
open PySem PySem.Spec PyProof.Rows
theorem vals_ints : ∀ {vs : List Value} {ns : List Int}, IntsAre vs ns → Vals (ns.map V.int) vs
 | _, _, .nil => .nil
 | _, _, .cons n t h => .cons ⟨t, rfl⟩ (vals_ints h)
def Only (H : Hp) : Prop := ∀ b, H b = none ∨ ∃ o xs, H b = some (.frz o (.lst xs))
theorem law_call {P : Program} {w : World} {K : PySem.W.Frag} {mg mb : Str → Option Value} {CX : CXT} {k : Nat} {fa a : Addr} {fd : FuncData} {x : Str} {sp : Sp} {s₁ : Shared} {vs : List Value} {ns : List Int}
   (KX : K.In s₁.heap) (hns : s₁.heap.Ns mainGlobals mg) (hb : s₁.heap.Ns builtinsNs mb) (hbb : ∀ x : Str, x ≠ "__name__" → mb x = bootBuiltins x) (hlim : s₁.heap.NoLimit) (hg : s₁.gens = #[])
   (ha : s₁.heap.get? a = some { cls := .type "list", data := .seq vs.toArray }) (hi : IntsAre vs ns) (hl : ns.length ≤ sizeLine) (hr : Room true k callerA)
   (F : ∀ base : Heap, K.In base → base.Ns mainGlobals mg → FnOk P w K mg base CX true k fa fd [x] sp) (hbind : ∀ (s : Shared) (u : Value), BindsTo s fd ⟨[u], []⟩ [(x, u)])
   (hsp : ∀ H : Hp, Only H → SqL K H a (ns.map V.int) → sp [.ref a] H (fun v _ => v = .bl true) fun _ _ _ => False)
   (hCX : ∀ H e s', CX [] H s₁ (fun _ _ _ => False) e s' → False) :
   codeAny (model P w) callerA (.call (.ref fa) ⟨[.ref a], []⟩) (fun r s' => r = .ok (.ret (.bool true)) ∧ OldK s₁.heap s'.heap ∧ s'.os = s₁.os ∧ AllBare s'.gens) s₁ := by
 have rv := vals_ints hi
 have lenV := hi.length
 -- from an abstract heap in which nothing but the script may be tracked
 have core : ∀ H : Hp, Only H → SqL K H a (ns.map V.int) → HOk P w H s₁.heap → (∀ b, H b ≠ none → b = a) → (H a ≠ none → K.lookup a = none) →
     codeAny (model P w) callerA (.call (.ref fa) ⟨[.ref a], []⟩) (fun r s' => r = .ok (.ret (.bool true)) ∧ OldK s₁.heap s'.heap ∧ s'.os = s₁.os ∧ AllBare s'.gens) s₁ := by
   intro H hO hS hok hA hK
   have base_of : ∀ {b : Addr} {o : Obj}, s₁.heap.get? b = some o → H b = none → (hidT s₁.heap H).get? b = some o := fun e n => hidT_get e n
   have noA : ∀ {b : Addr} {o : Obj} {es : Array DictEntry} {ep : Nat}, s₁.heap.get? b = some o → o.data = .dict es ep → H b = none := fun {b o es ep} e d => by
     cases q : H b with
     | none => rfl
     | some u =>
       have e' : b = a := hA b (by rw [q]; simp)
       subst e'
       rw [ha] at e; cases e
       have d' : Data.seq vs.toArray _ = Data.dict es ep := d
       cases d'
   have nsK : ∀ {b : Addr} {m : Str → Option Value}, s₁.heap.Ns b m → (hidT s₁.heap H).Ns b m := fun {b m} ⟨o, es, ep, e, d, r⟩ => ⟨o, es, ep, base_of e (noA e d), d, r⟩
   have hKb : K.In (hidT s₁.heap H) := fun b o e => base_of (KX b o e) (by
     cases q : H b with
     | none => rfl
     | some u =>
       have e' : b = a := hA b (by rw [q]; simp)
       subst e'
       rw [hK (by rw [q]; simp)] at e; cases e)
   have hM : Mod K mg (hidT s₁.heap H) := ⟨hKb, nsK hns, ⟨mb, nsK hb, hbb⟩, let ⟨mc, h1, h2⟩ := hlim; ⟨mc, nsK h1, h2⟩⟩
   have e0 : Env0 P w K mg (hidT s₁.heap H) callerA [] s₁ H := ⟨rfl, hM, fun b o e => of_hidT e, Nat.le_of_eq (hidT_size _ _), trivial, fun b hb => absurd (show b ∈ ([] : List Addr) from hb) (by simp), hok, .of_eq hg⟩
   refine codeAny_mono ((F _ hKb (nsK hns)).run callerA [] s₁ H ⟨[.ref a], []⟩ [.ref a] [.ref a] _ _ hr e0 (hbind s₁ (.ref a)) (.cons rfl .nil) (hsp H hO hS)) fun r s' h => ?_
   cases r with
   | error e => exact (hCX H e s' h).elim
   | ok fl =>
     cases fl with
     | next => exact False.elim h
     | brk => exact False.elim h
     | cont => exact False.elim h
     | ret u =>
       obtain ⟨v, H', os, bare, un, hok', r', q⟩ := h
       have q' : v = .bl true := q
       subst q'
       obtain rfl : u = Value.bool true := r'
       refine ⟨rfl, OldK.of_keep fun b o e => ?_, os, bare⟩
       cases q : H b with
       | none => exact un.keep b o e q (by intro z; exact absurd (show b ∈ ([] : List Addr) from z) (by simp)) (by simp)
       | some u =>
         rcases hO b with z | ⟨ob, xs, z⟩
         · rw [q] at z; cases z
         · have z2 := un.frzs b ob _ z
           obtain ⟨e1, _⟩ := hok b _ z
           obtain ⟨e2, _⟩ := hok' b _ z2
           rw [e] at e1; cases e1
           exact e2
 cases hk : K.lookup a with
 | some o =>
   -- the script is one of the module's own objects
   have e := KX a o hk
   rw [ha] at e
   cases e
   refine core (fun _ => none) (fun _ => .inl rfl) (.inr ⟨_, vs.toArray, _, hk, rfl, rfl, rfl, by rw [List.size_toArray, lenV]; exact hl, by simpa using rv⟩) (fun b u z => by have z' : (none : Option HO) = some u := z; cases z') (fun b z => absurd rfl z) fun z => absurd rfl z
 | none =>
   refine core (fun b => if b = a then some (.frz { cls := .type "list", data := .seq vs.toArray } (.lst (ns.map V.int))) else none) (fun b => ?_) (.inl (.inr ⟨{ cls := .type "list", data := .seq vs.toArray }, if_pos rfl⟩)) (fun b u z => ?_) (fun b z => ?_) fun _ => hk
   · by_cases hb : b = a
     · exact .inr ⟨_, _, if_pos hb⟩
     · exact .inl (if_neg hb)
   · by_cases hb : b = a
     · have z' := (if_pos hb).symm.trans z
       cases z'
       subst hb
       exact ⟨ha, by rw [List.length_map]; exact hl, vs, _, rv, ha⟩
     · have z' := (if_neg hb).symm.trans z
       cases z'
   · by_cases hb : b = a
     · exact hb
     · exact absurd (if_neg hb) z
end L2
namespace L2
open PySem PySem.Spec PyProof.Rows
abbrev KOf {K : PySem.W.Frag} {h : Heap} (_ : K.In h) : PySem.W.Frag := K
theorem walk_of {l : PySem.W.OpenLaw} {n k : Nat} {q : Program} {loose : List Str} {XP : (Str → Option Value) → Heap → Prop} {YP : World → Heap → Prop} {d : DefRec} {K : Params → PySem.W.Frag} {CX : World → CXT} {sp : World → Sp} {x : Str}
   (hn : l.most = some n) (hn2 : n ≤ sizeLine) (hdf : d.params.defaults = []) (hr : Room true k callerA)
   (hY : ∀ (w : World) (h : Heap), YP w h → (K w.params).In h)
   (F : ∀ (w : World) (mg : Str → Option Value) (fa : Addr) (h : Heap), (K w.params).In h → h.Ns mainGlobals mg → mg d.name = some (.ref fa) →
     ∃ fd : FuncData, (∀ (s : Shared) (u : Value), BindsTo s fd ⟨[u], []⟩ [(x, u)]) ∧
       ∀ base : Heap, (K w.params).In base → base.Ns mainGlobals mg → FnOk l.prog w (K w.params) mg base (CX w) true k fa fd [x] (sp w))
   (hsp : ∀ (w : World) (H : Hp) (a : Addr) (ns : List Int), ns.length ≤ n → Only H → SqL (K w.params) H a (ns.map V.int) → sp w [.ref a] H (fun v _ => v = .bl true) fun _ _ _ => False)
   (hCX : ∀ (w : World) (H : Hp) (s : Shared) (e : Value) (s' : Shared), CX w [] H s (fun _ _ _ => False) e s' → False) :
   PySem.W.WalkO q loose XP YP l.row.toRowW d [] (fun f vs => PySem.call f vs) := by
 refine Att.attach_call hn hdf fun w s₀ s₁ mg mb fa o pm cd doc a vs ns G Y ho hd hcd hmg hobj hints hlen hg => ?_
 have KX := hY w _ Y
 obtain ⟨fd, hb, hF⟩ := F w mg fa _ KX G.T.g hmg
 exact law_call KX G.T.g G.T.b G.T.builtins G.T.nolimit hg hobj hints (Nat.le_trans hlen hn2) hr hF hb (fun H hO hS => hsp w H a ns hlen hO hS) fun H e s' => hCX w H s₁ e s'
end L2
/- THE LAST THEOREM (shape; LID, My.* are yours):
  My.Adr: a structure of the addresses that your layer names (classes, functions); My.Txt K t: a structure (Prop) of the equations over K;
  My.txt_mk : {K} {implicit addresses ..} (e1 : nsIn K mainGlobals "law" = some (some (.ref f))) (e2 : K.lookup f = some ⟨oc, od, .func (fnOf "law" "law" params body scope dV kV doc pm an cdv ct), sl⟩) (e3 : codeIn K cdv "law" = true) .. : ∃ t, My.Txt K t
set_option maxRecDepth 100000 in
set_option maxHeartbeats 0 in
theorem PySem.Challenge.cw_LID_holds : PySem.Challenge.rw_LID.Holds := by
 w_on; o_law; k_head; (case hw => w_witness2)
 k_fill
 refine L2.walk_of (l := PySem.Challenge.rw_LID) (n := 63) (k := 40) (x := "script") (CX := fun w => ..) (sp := fun _ => My.sp_law) rfl (by decide) rfl ⟨rfl, by decide, by decide⟩ (fun w h Y => PySem.W.kIn_of Y) ?F ?S ?C
 case F =>
   intro w mg fa h KX G hmg
   have T : ∃ t, My.Txt (L2.KOf KX) t := by
     dsimp only [L2.KOf]                          -- K must stand as «<heap const> w.params» for k_is
     refine' My.txt_mk ?e1 ?e2 ?e3 ..
     (case e1 => PySem.W.k_is)                    -- in the order: a name -> its address -> its object -> its parts
     (case e2 => PySem.W.k_is)
     ..
   obtain ⟨t, T⟩ := T
   have e0 := hmg.symm.trans (PySem.W.mg_of KX G T.law)
   cases e0                                       -- fa is the law's own address
   exact ⟨_, fun s u => .of_eq rfl, fun base kb nb => My.law_fn T kb nb⟩     -- if «.of_eq rfl» comes too early: refine' ⟨_, ?b, fun base kb nb => My.law_fn T kb nb⟩; exact fun s u => .of_eq rfl
 case S => exact fun w H a ns hl hO hS => ..
 case C => exact ..
(the tactic k_is has no namespace: write k_is) -/
namespace L2
open PySem PySem.Spec PyProof.Rows
def inClass (s : Stmt) (j : Nat) : Stmt := match s with
 | .ClassDef _ _ _ body _ _ _ _ _ _ _ => body.getD j (.Pass ⟨0, 0, 0, 0⟩)
 | _ => .Pass ⟨0, 0, 0, 0⟩
def defArgs (s : Stmt) : Arguments := match s with
 | .FunctionDef _ a _ _ _ _ _ _ _ _ => a
 | _ => { posonlyargs := [], args := [], vararg := none, kwonlyargs := [], kw_defaults := [], kwarg := none, defaults := [] }
def defBody (s : Stmt) : List Stmt := match s with
 | .FunctionDef _ _ b _ _ _ _ _ _ _ => b
 | _ => []
def defScope (s : Stmt) : Scope := match s with
 | .FunctionDef _ _ _ _ _ _ sc _ _ _ => sc
 | _ => { kind := .function, names := [], isGenerator := false, isCoroutine := false }
abbrev CX0 : CXT := fun _ _ _ _ _ _ => False
abbrev E0 : XK := fun _ _ _ => False
theorem pass0 {X : Cx} : Passes CX0 X E0 := fun _ _ _ _ _ _ _ h => h.elim
structure Fun (K : PySem.W.Frag) (x qual : Str) (st : Stmt) (f : Addr) (fd : FuncData) : Prop where
 ex : ∃ (oc : Value) (od : Option Addr) (kV doc pm : Value) (an : Option Addr) (cdv ct : Value) (osl : Array (Option Value)),
   fd = PySem.W.fnOf x qual (defArgs st) (defBody st) (defScope st) .none kV doc pm an cdv ct ∧ K.lookup f = some ⟨oc, od, .func fd, osl⟩ ∧ PySem.W.codeIn K cdv qual = true
 kp : PySem.W.keepIn K (.ref f) = true
section
variable {P : Program} {w : World} {K : PySem.W.Frag} {mg : Str → Option Value} {base : Heap}
theorem Fun.ok {x qual : Str} {st : Stmt} {f : Addr} {fd : FuncData} {N ps : List Str} {k : Nat} {sp : Sp} (F : Fun K x qual st f fd) (S : FnScope N ps (defScope st)) (len : ∀ vs H Q E, sp vs H Q E → vs.length = ps.length)
   (hbody : ∀ (cdv : Value) (A : Around) (outer : List Env) (s : Shared) (H : Hp) (vs : List V) (Q : VK) (E : XK), Room cm k (A.deeper (envOfC qual (defScope st) s.heap.objs.size f cdv)) → sp vs H Q E →
     ∃ t, PSs (cxOf CX0 cm P w K mg base N qual (defScope st) f cdv A outer s H E).nox (defBody st) t ∧ t { nx := fun _ H' => Q .non H', rt := Q } (start N vs) H) : FnOk P w K mg base CX0 cm (k + 1) f fd ps sp := by
 obtain ⟨oc, od, kV, doc, pm, an, cdv, ct, osl, rfl, lk, hcd⟩ := F.ex
 refine fn_of lk hcd S len fun A outer s H vs Q E hr hsp => ?_
 obtain ⟨t, h, q⟩ := hbody cdv A outer s H vs Q E hr hsp
 exact ⟨t, h.nox, q⟩
theorem Fun.binds {x qual : Str} {st : Stmt} {f : Addr} {fd : FuncData} {ps : List Str} (F : Fun K x qual st f fd)
   (h : ∀ (kV doc pm : Value) (an : Option Addr) (cdv ct : Value) (us : List Value), us.length = ps.length → bindArgs (PySem.W.fnOf x qual (defArgs st) (defBody st) (defScope st) .none kV doc pm an cdv ct) ⟨us, []⟩ = pure (ps.zip us)) : Binds K fd ps [] := by
 obtain ⟨oc, od, kV, doc, pm, an, cdv, ct, osl, rfl, lk, hcd⟩ := F.ex
 exact .all (h kV doc pm an cdv ct)
end
theorem hu_of {cm : Bool} {A : Around} {k : Nat} (hr : Room cm k A) : A.units + 1 < cLine := Nat.lt_of_le_of_lt (Nat.add_le_add_left (by decide : 1 ≤ 64) _) hr.units
section
variable {X : Cx}
theorem pv (i : Nat) {x : Str} {pos : Pos} (hN : X.N[i]? = some x := by rfl) (hv : Vis X.env.scope x := by first | exact Or.inl rfl | exact Or.inr (Or.inl rfl) | exact Or.inr (Or.inr rfl)) (hd : (x == ("__debug__" : Str)) = false := by decide)
   (hcd : (x == ("__classdict__" : Str)) = false := by decide) : PE X (.Name x pos) (tVar i) := pe_var hN hv hd hcd
end
theorem iteF {A B : Prop} (h : B) : if false = true then A else B := by
 rw [if_neg Bool.false_ne_true]
 exact h
theorem iteT {A B : Prop} (h : A) : if true = true then A else B := by
 rw [if_pos rfl]
 exact h
def Same (H H' : Hp) : Prop := ∀ b o, H b = some o → H' b = some o
theorem Same.refl (H : Hp) : Same H H := fun _ _ h => h
theorem Same.trans {H H1 H2 : Hp} (a : Same H H1) (b : Same H1 H2) : Same H H2 := fun c o h => b c o (a c o h)
theorem Same.free {H H' : Hp} (e : Same H H') {l : Addr} (h : H' l = Option.none) : H l = Option.none := by
 cases q : H l with
 | none => rfl
 | some o =>
   rw [e l o q] at h
   cases h
theorem Same.seq {K : PySem.W.Frag} {H H' : Hp} {a : Addr} {xs : List V} (e : Same H H') (h : SqL K H a xs) : SqL K H' a xs := by
 rcases h with (h | ⟨o, h⟩) | h
 · exact .inl (.inl (e _ _ h))
 · exact .inl (.inr ⟨o, e _ _ h⟩)
 · exact .inr h
section
variable {κ : Type} [DecidableEq κ]
end
end L2
namespace L3
open PySem
def Rec (h : Heap) (x : Addr) (C : Value) (dx : Option Addr) (tb : Value) : Prop :=
 ∃ oe vs, h.get? x = some oe ∧ oe.cls = C ∧ oe.dict = dx ∧ oe.data = .fields vs ∧ vs[1]? = some tb
def Tra (h : Heap) (T : Addr) (fl : Value) : Prop := ∃ oT ts, h.get? T = some oT ∧ oT.data = .fields ts ∧ ts[3]? = some fl
theorem dict_mapFields (o : Obj) (f) : (o.mapFields f).dict = o.dict := by
 obtain ⟨c, d, dt, sl⟩ := o
 cases dt <;> rfl
structure Aft (S ch : List Addr) (h h' : Heap) : Prop where
 keep : ∀ b o, b ∉ S → b ∉ ch → h.get? b = some o → h'.get? b = some o
 slot : ∀ b o, b ∉ ch → h.get? b = some o → ∃ sl, h'.get? b = some { o with slots := sl }
 size : h.objs.size ≤ h'.objs.size
theorem Aft.refl (S ch : List Addr) (h : Heap) : Aft S ch h h := ⟨fun _ _ _ _ e => e, fun _ o _ e => ⟨o.slots, e⟩, Nat.le_refl _⟩
theorem Aft.trans {S ch : List Addr} {h1 h2 h3 : Heap} (a : Aft S ch h1 h2) (b : Aft S ch h2 h3) : Aft S ch h1 h3 where
 keep := fun c o hs hc e => b.keep c o hs hc (a.keep c o hs hc e)
 slot := fun c o hc e => by
   obtain ⟨s1, e1⟩ := a.slot c o hc e
   obtain ⟨s2, e2⟩ := b.slot c _ hc e1
   exact ⟨s2, e2⟩
 size := Nat.le_trans a.size b.size
theorem Aft.mono {S S' ch ch' : List Addr} {h h' : Heap} (a : Aft S ch h h') (hs : ∀ b, b ∈ S → b ∈ S') (hc : ∀ b, b ∈ ch → b ∈ ch') : Aft S' ch' h h' :=
 ⟨fun b o z1 z2 e => a.keep b o (fun q => z1 (hs b q)) (fun q => z2 (hc b q)) e, fun b o z e => a.slot b o (fun q => z (hc b q)) e, a.size⟩
section
variable {M : Model} {A : Around} {E : Value → Shared → Prop} {s : Shared}
theorem set_rec {T : Addr} {oT : Obj} {ts : Array Value} {i : Nat} {v : Value} {Q : Unit → Shared → Prop} (hT : s.heap.get? T = some oT) (hd : oT.data = .fields ts) (hi : i < ts.size)
   (h : ∀ h', Aft [] [T] s.heap h' → h'.get? T = some (oT.mapFields (·.setIfInBounds i v)) → Q () { s with heap := h' }) : wpAny M A (setField (.ref T) i v) Q E s := by
 refine wpAny_setField hT hd hi (h _ ⟨fun b o _ hb e => ?_, fun b o hb e => ⟨o.slots, ?_⟩, ?_⟩ ?_)
 · rw [Heap.get?_update_other _ _ (fun z => hb (by simp [z]))]; exact e
 · rw [Heap.get?_update_other _ _ (fun z => hb (by simp [z]))]; exact e
 · exact Nat.le_of_eq (Heap.size_after_update ..).symm
 · exact Heap.get?_update_self _ hT (Obj.isFreed_of_fields (Obj.data_mapFields hd _))
theorem new_rec {base : Heap} {env : Env} {outer : List Env} {L x : Addr} {oe : Obj} {vs : Array Value} {head : Value} {hadNext : Bool} {Q : Unit → Shared → Prop}
   (hfr : A.frames = some (env :: outer)) (hl : s.heap.FunFrames base (env :: outer)) (hf : env.frame = some L) (he : s.heap.get? x = some oe) (hd : oe.data = .fields vs) (hsz : 1 < vs.size)
   (h : ∀ h' T, Aft ((env :: outer).filterMap (·.frame)) [x] s.heap h' → s.heap.objs.size ≤ T → Rec h' x oe.cls oe.dict (.ref T) → Tra h' T (rawInt L) → Q () { s with heap := h' }) :
   wpAny M A (do let a ← frameOf env; let pl ← entryPlaceOf L hadNext; let b ← EntryCells.newEntry head a .none (rawInt L) .none pl; setField (.ref x) 1 b) Q E s := by
 have hne : x ∉ (env :: outer).filterMap (·.frame) := fun hm => by
   obtain ⟨_, o, ho, hnf⟩ := hl.mem hm
   rw [he] at ho
   cases ho
   exact hnf vs hd
 refine wpAny_bind (wpAny_frameOf_fun hfr hl hf fun h1 hs1 => ?_)
 refine wpAny_bind (wpAny_entryPlaceOf fun pl hpl => ?_)
 unfold EntryCells.newEntry newFields
 refine wpAny_bind (wpAny_newObj_type ?_ (hpl.sizeOk5 _ _ _ _ _))
 have he1 : h1.get? x = some oe := (hs1.2.1 x hne).trans he
 refine set_rec (Heap.get?_push_of_some _ he1) hd hsz fun h' a hx => ?_
 have hTx : h1.objs.size ≠ x := Nat.ne_of_gt (Heap.lt_size he1)
 refine h h' h1.objs.size ⟨fun b o hb hc e => ?_, fun b o hc e => ?_, ?_⟩ (Nat.le_of_eq hs1.1.symm) ⟨_, _, hx, Obj.cls_mapFields _ _, dict_mapFields _ _, Obj.data_mapFields hd _, by simp [hsz]⟩ ?_
 · exact a.keep b o (by simp) hc (Heap.get?_push_of_some _ ((hs1.2.1 b hb).trans e))
 · obtain ⟨sl, e1⟩ := hs1.2.2 b o e
   exact ⟨sl, a.keep b _ (by simp) hc (Heap.get?_push_of_some _ e1)⟩
 · refine Nat.le_trans ?_ a.size
   show s.heap.objs.size ≤ (h1.push _).objs.size
   rw [Heap.size_push, hs1.1]
   exact Nat.le_succ _
 · refine ⟨_, _, a.keep _ _ (by simp) (by simp [hTx]) (Heap.get?_push_size h1 rfl), rfl, ?_⟩
   first | (simp; done) | (rcases hpl with rfl | ⟨_, _, _, _, _, _, _, rfl⟩ <;> simp)
theorem note_new {base : Heap} {env : Env} {outer : List Env} {L x : Addr} {C : Value} {dx : Option Addr} {Q : Unit → Shared → Prop}
   (hfr : A.frames = some (env :: outer)) (hl : s.heap.FunFrames base (env :: outer)) (hf : env.frame = some L) (r : Rec s.heap x C dx .none)
   (h : ∀ h' T, Aft ((env :: outer).filterMap (·.frame)) [x] s.heap h' → s.heap.objs.size ≤ T → Rec h' x C dx (.ref T) → Tra h' T (rawInt L) → Q () { s with heap := h' }) :
   wpAny M A (noteFrame (.ref x) env) Q E s := by
 obtain ⟨oe, vs, he, rfl, rfl, hd, h1⟩ := r
 unfold noteFrame
 simp only [hf]
 refine wpAny_bind (wpAny_field he hd h1 ?_)
 rw [if_neg (by decide)]
 exact new_rec hfr hl hf he hd (Array.getElem?_eq_some_iff.mp h1).1 h
theorem note_any {base : Heap} {env : Env} {outer : List Env} {L x T : Addr} {C : Value} {dx : Option Addr} {fl : Value} {Q : Unit → Shared → Prop}
   (hfr : A.frames = some (env :: outer)) (hl : s.heap.FunFrames base (env :: outer)) (hf : env.frame = some L) (r : Rec s.heap x C dx (.ref T)) (hx : T ≠ x) (t : Tra s.heap T fl)
   (h : ∀ h' T' fl', Aft ((env :: outer).filterMap (·.frame)) [x, T] s.heap h' → (T' = T ∨ s.heap.objs.size ≤ T') → Rec h' x C dx (.ref T') → Tra h' T' fl' → Q () { s with heap := h' }) :
   wpAny M A (noteFrame (.ref x) env) Q E s := by
 obtain ⟨oe, vs, he, rfl, rfl, hd, h1⟩ := r
 obtain ⟨oT, ts, hT, hdT, h3⟩ := t
 unfold noteFrame
 simp only [hf]
 refine wpAny_bind (wpAny_field he hd h1 ?_)
 rw [if_pos (show (Value.ref T != Value.none) = true from by simp)]
 refine wpAny_bind (wpAny_field hT hdT h3 ?_)
 by_cases hb : (fl == rawInt L) = true
 · rw [if_pos hb]
   exact wpAny_pure (h s.heap T fl (Aft.refl ..) (.inl rfl) ⟨oe, vs, he, rfl, rfl, hd, h1⟩ ⟨oT, ts, hT, hdT, h3⟩)
 rw [if_neg hb]
 refine wpAny_bind (set_rec hT hdT (Array.getElem?_eq_some_iff.mp h3).1 fun h2 a2 e2 => ?_)
 have nT : ∀ b o, s.heap.get? b = some o → (∀ ws, o.data ≠ .fields ws) → b ∉ [T] := fun b o e hn z => by
   have z' : b = T := by simpa using z
   rw [z', hT] at e
   cases e
   exact hn ts hdT
 refine new_rec hfr (hl.of_keeps fun b o e hn => ⟨o, a2.keep b o (by simp) (nT b o e hn) e, rfl⟩) hf (a2.keep x oe (by simp) (by simp [Ne.symm hx]) he) hd (Array.getElem?_eq_some_iff.mp h1).1 fun h' T' a r' t' l => ?_
 refine h h' T' _ (Aft.trans (a2.mono (by simp) (by simp)) (a.mono (fun _ z => z) (by simp))) (.inr (Nat.le_trans a2.size r')) t' l
theorem flight_none {x T : Addr} {C : Value} {dx : Option Addr} {fl : Value} {Q : Unit → Shared → Prop} (r : Rec s.heap x C dx (.ref T)) (hx : T ≠ x) (t : Tra s.heap T fl)
   (h : ∀ h', Aft [] [T] s.heap h' → Rec h' x C dx (.ref T) → Tra h' T .none → Q () { s with heap := h' }) : wpAny M A (setFlight (.ref x) none) Q E s := by
 obtain ⟨oe, vs, he, rfl, rfl, hd, h1⟩ := r
 obtain ⟨oT, ts, hT, hdT, h3⟩ := t
 unfold setFlight
 refine wpAny_bind (wpAny_field he hd h1 ?_)
 rw [if_pos (show (Value.ref T != Value.none) = true from by simp)]
 have h3' := (Array.getElem?_eq_some_iff.mp h3).1
 refine set_rec hT hdT h3' fun h2 a2 e2 => h h2 a2 ⟨oe, vs, a2.keep x oe (by simp) (by simp [Ne.symm hx]) he, rfl, rfl, hd, h1⟩ ⟨_, _, e2, Obj.data_mapFields hdT _, ?_⟩
 simp [h3']
end
end L3
namespace L3
open PySem
def Rds {α : Type} (M : Model) (h : Heap) (t : Sem α) (r : α) : Prop :=
 ∀ (A : Around) (Q : α → Shared → Prop) (E : Value → Shared → Prop) (s : Shared), (∀ b o, h.get? b = some o → s.heap.get? b = some o) → Q r s → wpAny M A t Q E s
structure XC (h : Heap) (C : Addr) (bm : List Value) : Prop where
 at_ : ∃ nm q N bs sn sub ab col dd k0 k1 k2 k3 k5, h.get? C = some (excClassObj nm q C N bs bm true sn sub ab col dd k0 k1 k2 k3 k5 "ValueError.__new__")
 val : bm.contains (.type "ValueError") = true
 bas : bm.contains (.type "BaseException") = true
 ob : bm.contains (.type "object") = true
 noA : bm.contains (.type "AttributeError") = false
 noN : bm.contains (.type "NameError") = false
theorem XC.keeps {h h' : Heap} {C : Addr} {bm : List Value} (x : XC h C bm) (k : ∀ b o, h.get? b = some o → h'.get? b = some o) : XC h' C bm := by
 obtain ⟨⟨nm, q, N, bs, sn, sub, ab, col, dd, k0, k1, k2, k3, k5, e⟩, h1, h2, h3, h4, h5⟩ := x
 exact ⟨⟨nm, q, N, bs, sn, sub, ab, col, dd, k0, k1, k2, k3, k5, k _ _ e⟩, h1, h2, h3, h4, h5⟩
theorem has_more {C : Addr} {bm : List Value} {T : String} {b : Bool} (h : bm.contains (.type T) = b) : (Value.ref C :: bm).contains (.type T) = b := by
 rw [List.contains_cons, h]
 cases b <;> rfl
section
variable {P : Program} {w : World} {A : Around} {E : Value → Shared → Prop} {h : Heap} {g : Array GenState} {d : Drawn} {t : Nat} {os : OsState} {C : Addr} {bm : List Value}
theorem new_check {M : Model} {more : List Value} {Q : Unit → Shared → Prop} (x : XC h C bm) (hq : Q () ⟨h, g, d, t, os⟩) : wpAny M A (checkBuiltinCall "ValueError.__new__" ⟨.ref C :: more, []⟩) Q E ⟨h, g, d, t, os⟩ := by
 obtain ⟨⟨nm, q, N, bs, sn, sub, ab, col, dd, k0, k1, k2, k3, k5, cC⟩, val, bas, _, _, _⟩ := x
 have F := PySem.F.excBase_ValueError
 have c1 : (Value.ref C :: bm).contains (.type "ValueError") = true := has_more val
 have star := F.noStar
 simp only [checkBuiltinCall, F.newKind, F.newSplit, F.newRow]
 repeat (first
   | refine wpAny_loadPart_at cC ?_
   | (refine wpAny_isSubtype_exc cC ?_; rw [c1])
   | refine wpAny_staticBase_exc cC ?_
   | refine wpAny_madeBy_exc cC ?_
   | simp only [bne_self_eq_false, Bool.false_eq_true, if_false]
   | wp_step)
 exact hq
theorem new_run {more : List Value} {R : Result → Shared → Prop} (x : XC h C bm)
   (hq : R (.ok (.ret (.ref (h.objs.size + 1)))) ⟨(h.push { cls := .type "tuple", data := .seq more.toArray }).push { cls := .ref C, data := .fields #[.ref h.objs.size, .none, .none, .none, .bool false, .none] }, g, d, t, os⟩)
   (hrest : more.length ≤ sizeLine) : codeAny (model P w) A (.builtin "ValueError.__new__" ⟨.ref C :: more, []⟩) R ⟨h, g, d, t, os⟩ := by
 obtain ⟨⟨nm, q, N, bs, sn, sub, ab, col, dd, k0, k1, k2, k3, k5, cC⟩, val, bas, _, noA, noN⟩ := x
 have F := PySem.F.excBase_ValueError
 have ends := F.ends
 have c1 : (Value.ref C :: bm).contains (.type "ValueError") = true := has_more val
 have c2 : (Value.ref C :: bm).contains (.type "AttributeError") = false := has_more noA
 have c3 : (Value.ref C :: bm).contains (.type "NameError") = false := has_more noN
 refine codeAny_builtinAt F.entry ?_
 unfold Builtin.«BaseException.__new__»
 refine wpAt_bind ?_
 show wpAt _ _ _ (stack >>= _) _ _ _
 refine wpAt_bind (wpAt_stack fun p below => wpAt_of_wpAny ?_)
 wp_walk
 refine wpAt_of_wpAny ?_
 rw [F.owner]
 repeat (first
   | with_reducible refine wpAny_madeHere_exc F.canon cC ?_
   | with_reducible refine wpAny_loadPart_at cC ?_
   | (with_reducible refine wpAny_isSubtype_exc cC ?_; first | rw [c1] | rw [c2] | rw [c3])
   | wp_step)
 show R _ _
 rw [Heap.size_push]
 exact hq
theorem class_run {iv : Value} {more : List Value} {Q : PySem.Fin → Shared → Prop} (x : XC h C bm) (li : Rds (model P w) h (typeLookup (.ref C) "__init__") (some iv))
   (hrest : more.length ≤ sizeLine)
   (hq : ∀ h' e, Heap.MadeExcOf h h' e (.ref C) more → h.objs.size ≤ e → wpAny (model P w) A (bindSpecial iv (.ref e)) (fun p s1 => wpAny (model P w) A (call p.1 (p.2 ++ more)) (fun r s2 => r = .none ∧ Q (.done (.ret (.ref e))) s2) E s1) E ⟨h', g, d, t, os⟩) :
   wpAny (model P w) A (Builtin.«type.__call__» ⟨.ref C :: more, []⟩) Q E ⟨h, g, d, t, os⟩ := by
 have x0 := x
 obtain ⟨⟨nm, q, N, bs, sn, sub, ab, col, dd, k0, k1, k2, k3, k5, cC⟩, val, bas, _, noA, noN⟩ := x
 have F := PySem.F.excBase_ValueError
 repeat (first
   | with_reducible refine wpAny_loadPart_at cC ?_
   | with_reducible refine wpAny_madeBy_exc cC ?_
   | wp_step)
 refine codeAny_call_builtin_code (Code.quiet_builtin _ F.quiet) (new_check x0 ?_)
 refine new_run x0 ?_ hrest
 show wpAny _ _ _ _ _ _
 have up : ∀ b o, h.get? b = some o → ((h.push { cls := .type "tuple", data := .seq more.toArray }).push { cls := .ref C, data := .fields #[.ref h.objs.size, .none, .none, .none, .bool false, .none] }).get? b = some o :=
   fun b o e => Heap.get?_push_of_some _ (Heap.get?_push_of_some _ e)
 have cC1 := up _ _ cC
 have here : ((h.push { cls := .type "tuple", data := .seq more.toArray }).push { cls := .ref C, data := .fields #[.ref h.objs.size, .none, .none, .none, .bool false, .none] }).get? (h.objs.size + 1) =
     some { cls := .ref C, data := .fields #[.ref h.objs.size, .none, .none, .none, .bool false, .none] } := by heap_get
 have c0 : (Value.ref C :: bm).contains (.ref C) = true := by simp
 unfold isInstance
 repeat (first
   | with_reducible refine wpAny_loadPart_at here ?_
   | (with_reducible refine wpAny_isSubtype_exc cC1 ?_; rw [c0])
   | wp_step)
 show wpAny _ _ (typeLookup (.ref C) _) _ _ _
 refine li _ _ _ _ up ?_
 refine wpAny_holding (wpAny_bind (wpAny_mono (hq _ (h.objs.size + 1) ⟨up, Heap.get?_none_of_le (Nat.le_succ _), h.objs.size, here, Heap.get?_none_of_le (Nat.le_refl _), ?_⟩ (Nat.le_succ _)) (fun p s1 h1 => ?_) fun _ _ z => z))
 · exact Heap.get?_push_of_some _ (Heap.get?_push_at rfl rfl)
 · obtain ⟨p1, p2⟩ := p
   refine wpAny_bind (wpAny_mono h1 (fun r s2 hr => ?_) fun _ _ z => z)
   obtain ⟨rfl, hQ⟩ := hr
   wp_walk
   exact hQ
end
end L3
namespace L3
open PySem
section
variable {P : Program} {w : World} {A : Around} {E : Value → Shared → Prop} {h : Heap} {g : Array GenState} {d : Drawn} {t : Nat} {os : OsState} {C : Addr} {bm : List Value}
theorem class_call {iv : Value} {more : List Value} {Q : Value → Shared → Prop} (x : XC h C bm) (li : Rds (model P w) h (typeLookup (.ref C) "__init__") (some iv)) (hrest : more.length ≤ sizeLine)
   (hq : ∀ h' e, Heap.MadeExcOf h h' e (.ref C) more → h.objs.size ≤ e → wpAny (model P w) (A.under (.builtin "type.__call__" ⟨.ref C :: more, []⟩)) (bindSpecial iv (.ref e))
     (fun p s1 => wpAny (model P w) (A.under (.builtin "type.__call__" ⟨.ref C :: more, []⟩)) (call p.1 (p.2 ++ more)) (fun r s2 => r = .none ∧ Q (.ref e) s2) E s1) E ⟨h', g, d, t, os⟩) :
   wpAny (model P w) A (call (.ref C) more) Q E ⟨h, g, d, t, os⟩ := by
 have x0 := x
 obtain ⟨⟨nm, q, N, bs, sn, sub, ab, col, dd, k0, k1, k2, k3, k5, cC⟩, _⟩ := x
 have f1 := tc_lookup
 have f2 := tc_bind (.ref C)
 have ty : (⟨h, g, d, t, os⟩ : Shared).TypeIs (.ref C) "type" := ⟨_, cC, rfl⟩
 refine wpAny_call (codeAny_of_tree ?_)
 show wpAny _ _ (callAny (.ref C) _) _ _ _
 repeat (any_goals (first
   | assumption
   | with_reducible refine wpAny_loadPart_at cC ?_
   | wp_step))
 refine ⟨rfl, ?_⟩
 exact codeAny_call_builtin_at (Code.quiet_builtin _ (by decide +kernel)) entry_typeCall (wpAny_check_type_call_sub cC (class_run x0 li hrest fun h' e hm hs => hq h' e hm hs))
def Bare (s : Shared) (e C : Addr) : Prop := ∃ dx t, s.heap.get? e = some { cls := .ref C, dict := dx, data := .fields #[.ref t, .none, .none, .none, .bool false, .none] }
theorem raise_run {env : Env} {s : Shared} {x : Sem Value} {Q : Flow → Shared → Prop} (hh : A.handled = none)
   (hx : wpAny (model P w) A x (fun v s1 => ∃ e, v = .ref e ∧ XC s1.heap C bm ∧ Bare s1 e C ∧ E (.ref e) s1) E s) : wpAny (model P w) A (raiseStmt env (some x) none) Q E s := by
 unfold raiseStmt
 refine wpAny_bind (wpAny_mono hx (fun v s1 h1 => ?_) fun _ _ z => z)
 obtain ⟨e, rfl, xc, ⟨dx, tt, he⟩, hE⟩ := h1
 obtain ⟨⟨nm, q, N, bs, sn, sub, ab, col, dd, k0, k1, k2, k3, k5, cC⟩, _, bas, _⟩ := xc
 have c1 : (Value.ref C :: bm).contains (.type "BaseException") = true := has_more bas
 obtain ⟨hp, g1, d1, tk, os1⟩ := s1
 repeat (first
   | with_reducible refine wpAny_loadPart_at he ?_
   | with_reducible refine wpAny_loadPart_at cC ?_
   | (with_reducible refine wpAny_isSubtype_exc cC ?_; rw [c1])
   | wp_step)
 exact wpAny_raiseNew_none hh hE
theorem raise_call {env : Env} {s : Shared} {x : Str} {np cpos pos : Pos} {args : List Expr} {iv : Value} {Q : Flow → Shared → Prop} (hh : A.handled = none) (hplain : (backTo cpos (starEach args env)).any (·.1) = false)
   (hx : wpAny (model P w) A (eval (.Name x np) env) (fun f s1 => f = .ref C ∧ wpAny (model P w) A (evalArgs (.ref C) true (backTo cpos (starEach args env)) [])
     (fun a s2 => a.kw = [] ∧ a.pos.length ≤ sizeLine ∧ XC s2.heap C bm ∧ Rds (model P w) s2.heap (typeLookup (.ref C) "__init__") (some iv) ∧
       ∀ h' e, Heap.MadeExcOf s2.heap h' e (.ref C) a.pos → s2.heap.objs.size ≤ e → wpAny (model P w) (A.under (.builtin "type.__call__" ⟨.ref C :: a.pos, []⟩)) (bindSpecial iv (.ref e))
         (fun p s3 => wpAny (model P w) (A.under (.builtin "type.__call__" ⟨.ref C :: a.pos, []⟩)) (call p.1 (p.2 ++ a.pos)) (fun r s4 => r = .none ∧ XC s4.heap C bm ∧ Bare s4 e C ∧ E (.ref e) s4) E s3) E { s2 with heap := h' }) E s1) E s) :
   wpAny (model P w) A (exec (.Raise (some (.Call (.Name x np) args [] cpos)) none pos) env) Q E s := by
 rw [arm_exec_Raise]
 have go : wpAny (model P w) A (eval (.Call (.Name x np) args [] cpos) env) (fun v s1 => ∃ e, v = .ref e ∧ XC s1.heap C bm ∧ Bare s1 e C ∧ E (.ref e) s1) E s := by
   refine wpAny_Call_ofName (wpAny_mono hx (fun f s1 h1 => ?_) fun _ _ z => z)
   obtain ⟨rfl, h1⟩ := h1
   unfold callWith
   refine wpAny_bind (wpAny_holding (wpAny_mono h1 (fun a s2 h2 => wpAny_bind (wpAny_standAt ?_)) fun _ _ z => z))
   obtain ⟨ap, ak⟩ := a
   obtain ⟨hkw, hlen, xc, li, h2⟩ := h2
   obtain rfl : ak = [] := hkw
   obtain ⟨hp, g1, d1, tk, os1⟩ := s2
   simp only [hplain]
   obtain ⟨⟨nm, q, N, bs, sn, sub, ab, col, dd, k0, k1, k2, k3, k5, cC⟩, _⟩ := id xc
   refine wpAny_bind (wpAny_keeperOf_exc cC ?_)
   refine wpAny_bind (class_call xc li hlen fun h' e hm hs => wpAny_mono (h2 h' e hm hs) (fun p s3 h3 => wpAny_mono h3 (fun r s4 h4 => ?_) fun _ _ z => z) fun _ _ z => z)
   exact ⟨h4.1, wpAny_bind (wpAny_holding (wpAny_point (wpAny_pure ⟨e, rfl, h4.2⟩)))⟩
 first
   | refine wpAny_bind (wpAny_standAt (raise_run (C := C) (bm := bm) hh (wpAny_bind (wpAny_mono go (fun v s3 h3 => wpAny_bind (wpAny_standAt (wpAny_pure h3))) fun _ _ z => z))))
   | (simp only [evalOpt, Option.map]; refine wpAny_bind (wpAny_standAt (raise_run (C := C) (bm := bm) hh (wpAny_bind (wpAny_mono go (fun v s3 h3 => wpAny_bind (wpAny_standAt (wpAny_pure h3))) fun _ _ z => z)))))
end
end L3
namespace L3
open PySem
section
variable {P : Program} {w : World} {A : Around} {E : Value → Shared → Prop} {h h' : Heap} {g : Array GenState} {d : Drawn} {t : Nat} {os : OsState} {C : Addr} {bm : List Value}
end
end L3
namespace L3
open PySem Builtin Builtin.ObjectAttr
section
variable {P : Program} {w : World} {A : Around} {E : Value → Shared → Prop} {h : Heap} {g : Array GenState} {d : Drawn} {t : Nat} {os : OsState} {C x : Addr} {bm : List Value}
 {mA : Str → Option Value} {name : Str} {v : Value} {B : String} {bmB : List Value}
theorem Rds.go {α : Type} {M : Model} {r : α} {u : Sem α} {s : Shared} {Q : α → Shared → Prop} (l : Rds M h u r) (k : ∀ b o, h.get? b = some o → s.heap.get? b = some o) (q : Q r s) : wpAny M A u Q E s := l A Q E s k q
def Stored (h : Heap) (x C : Addr) (mA : Str → Option Value) (name : Str) (v : Value) (h' : Heap) : Prop :=
 h'.Inst x C (fun y => if y = name then some v else mA y) ∧
 (∀ b o, b ≠ x → (∀ o0 dx, h.get? x = some o0 → o0.dict = some dx → b ≠ dx) → h.get? b = some o → h'.get? b = some o) ∧
 (∀ o0, h.get? x = some o0 → ∃ o1, h'.get? x = some o1 ∧ o1.cls = o0.cls ∧ o1.data = o0.data ∧ o1.slots = o0.slots ∧ ∀ dx, o0.dict = some dx → o1.dict = some dx) ∧
 (∀ o0, h.get? x = some o0 → o0.dict = none → ∃ o1, h'.get? x = some o1 ∧ o1.dict = some h.objs.size)
theorem set_check {M : Model} {o : Obj} {nameV : Value} {Q : Unit → Shared → Prop} (SF : StoreFacts B bmB "object.__setattr__" "object") (xc : XC h C bm) (hx : h.get? x = some o) (hc : o.cls = .ref C)
   (hq : Q () ⟨h, g, d, t, os⟩) : wpAny M A (checkBuiltinCall "object.__setattr__" ⟨[.ref x, nameV, v], []⟩) Q E ⟨h, g, d, t, os⟩ := by
 obtain ⟨⟨nm, q, N, bs, sn, sub, ab, col, dd, k0, k1, k2, k3, k5, cC⟩, _, _, ob, _, _⟩ := xc
 have c1 : (Value.ref C :: bm).contains (.type "object") = true := has_more ob
 simp only [checkBuiltinCall, SF.kind, SF.split]
 refine wpAny_bind ?_
 · unfold isInstance
   repeat (first
     | (with_reducible refine wpAny_loadPart_at hx ?_; rw [hc])
     | (with_reducible refine wpAny_isSubtype_exc cC ?_; rw [c1])
     | wp_step)
   exact hq
theorem set_entry {tk : Tok} {Q : PySem.Fin → Shared → Prop} {ns : List Str} (xc : XC h C bm) (hpass : ∀ self, refuseLoop self "__setattr__" bm = pure ()) (la : Rds (model P w) h (typeLookup (.ref C) name) none) (I : h.Inst x C mA)
   (hw : Within mA ns) (hsz : ns.length ≤ sizeLine) (hq : ∀ h' tk', Stored h x C mA name v h' → Q (.done (.ret .none)) ⟨h', g, d, tk', os⟩) :
   wpAny (model P w) A (Builtin.«object.__setattr__» ⟨[.ref x, .str name tk, v], []⟩) Q E ⟨h, g, d, t, os⟩ := by
 obtain ⟨⟨nm, q, N, bs, sn, sub, ab, col, dd, k0, k1, k2, k3, k5, cC⟩, _⟩ := xc
 obtain ⟨o, hx, hc, hnc, hd⟩ := I
 have hp := hpass (.ref x)
 unfold Builtin.«object.__setattr__»
 repeat (first
   | rw [refuse_eq]
   | (rw [refuseLoop_ref, hp])
   | (with_reducible refine wpAny_loadPart_at hx ?_; rw [hc])
   | with_reducible refine wpAny_mroOf_exc cC ?_
   | with_reducible refine Rds.go la (fun _ _ z => z) ?_
   | wp_step)
 rcases hd with ⟨hdn, hmA⟩ | ⟨dx, hdx, hne, hns⟩
 · rw [hdn, if_neg (by simp [typeHasDict])]
   split
   · rename_i z
     cases z
   split
   · rename_i c z
     exact absurd z (hnc c)
   · have hx1 : (h.push { cls := .type "dict", data := .dict #[] }).get? x = some o := Heap.get?_push_of_some _ hx
     have hxs : x ≠ h.objs.size := Nat.ne_of_lt (Heap.lt_size hx)
     refine wpAny_bind (wpAny_alloc' ?_)
     refine wpAny_bind (wpAny_update' hx1 ?_)
     refine wpAny_pure ?_
     have g1 : ((h.push { cls := .type "dict", data := .dict #[] }).update x fun o => { cls := o.cls, dict := some h.objs.size, data := o.data, slots := o.slots }).get? h.objs.size =
         some { cls := .type "dict", data := .dict #[] } := (Heap.get?_update_ne _ _ _ _ hxs.symm).trans (Heap.get?_push_at rfl rfl)
     have g2 : ((h.push { cls := .type "dict", data := .dict #[] }).update x fun o => { cls := o.cls, dict := some h.objs.size, data := o.data, slots := o.slots }).Ns h.objs.size (fun _ => none) :=
       ⟨_, #[], _, g1, rfl, (fun e he => absurd he (by simp)), fun _ => rfl⟩
     show wpAny _ _ (storeInDict h.objs.size (.str name tk) name v) _ _ _
     unfold storeInDict newKeyGuard
     refine wpAny_bind (wpAny_pure (wpAny_bind (wpAny_nsSet1 (Heap.Ns1.of_empty g2) fun h' hn' hs => ?_)))
     obtain ⟨oD, esD, epD, hoD, hdD, hcD⟩ := hn'.count (Within.cons name v Within.nil)
     refine wpAny_bind (wpAny_lookBehind hoD (by rw [hdD]; exact pastItsLine_dict (Nat.le_trans hcD (by rw [List.length_cons, List.length_nil, sizeLine_eq]; omega))) ?_)
     wp_walk
     have hx' : h'.get? x = some { cls := o.cls, dict := some h.objs.size, data := o.data, slots := o.slots } := by
       refine (hs.2 x hxs).trans (Heap.get?_update_self _ hx1 ?_)
       have fr := (Heap.get?_some_iff.mp hx).2
       obtain ⟨oc, od, odt, osl⟩ := o
       cases odt <;> first | rfl | exact fr
     refine hq h' _ ⟨⟨_, hx', hc, hnc, .inr ⟨h.objs.size, rfl, hxs.symm, ?_⟩⟩, fun b ob hbx _ hb => ?_, fun o0 h0 => ?_, fun o0 h0 _ => ⟨_, hx', rfl⟩⟩
     · obtain ⟨o', es, ep, e1, e2, e3, eu, e4⟩ := hn'
       exact ⟨o', es, ep, e1, e2, e3, eu, fun y => by rw [e4 y]; by_cases hy : y = name <;> simp [hy, hmA]⟩
     · exact (hs.2 b (Nat.ne_of_lt (Heap.lt_size hb))).trans ((Heap.get?_update_ne _ _ _ _ hbx).trans (Heap.get?_push_of_some _ hb))
     · obtain rfl : o = o0 := Option.some.inj (hx.symm.trans h0)
       exact ⟨_, hx', rfl, rfl, rfl, fun dx e => by rw [hdn] at e; cases e⟩
 · rw [hdx]
   refine wpAny_pure ?_
   show wpAny _ _ (storeInDict dx (.str name tk) name v) _ _ _
   unfold storeInDict newKeyGuard
   refine wpAny_bind (wpAny_pure (wpAny_bind (wpAny_nsSet1 hns fun h' hn' hs => ?_)))
   obtain ⟨oD, esD, epD, hoD, hdD, hcD⟩ := hn'.count (Within.cons name v hw)
   refine wpAny_bind (wpAny_lookBehind hoD (by rw [hdD]; exact pastItsLine_dict (Nat.le_trans hcD (by rw [List.length_cons]; omega))) ?_)
   wp_walk
   refine hq h' _ ⟨⟨o, (hs.2 x hne.symm).trans hx, hc, hnc, .inr ⟨dx, hdx, hne, hn'⟩⟩, fun b ob _ hbd hb => ?_, fun o0 h0 => ⟨o0, (hs.2 x hne.symm).trans h0, rfl, rfl, rfl, fun _ e => e⟩, fun o0 h0 hn0 => ?_⟩
   · exact (hs.2 b (hbd o dx hx hdx)).trans hb
   · obtain rfl : o = o0 := Option.some.inj (hx.symm.trans h0)
     rw [hdx] at hn0
     cases hn0
theorem set_attr {Q : Unit → Shared → Prop} {ns : List Str} (SF : StoreFacts B bmB "object.__setattr__" "object") (xc : XC h C bm) (hpass : ∀ self, refuseLoop self "__setattr__" bm = pure ())
   (ls : Rds (model P w) h (typeLookup (.ref C) "__setattr__") (some (.builtin "object.__setattr__"))) (la : Rds (model P w) h (typeLookup (.ref C) name) none) (I : h.Inst x C mA) (hw : Within mA ns) (hsz : ns.length ≤ sizeLine)
   (hq : ∀ h' tk', Stored h x C mA name v h' → Q () ⟨h', g, d, tk', os⟩) : wpAny (model P w) A (setAttr (.ref x) name v) Q E ⟨h, g, d, t, os⟩ := by
 obtain ⟨o, hx, hc, _⟩ := id I
 have f3 := SF.slot.bind (.ref x)
 unfold setAttr callSpecial? specialOf
 repeat (any_goals (first
   | assumption
   | (with_reducible refine wpAny_loadPart_at hx ?_; rw [hc])
   | with_reducible refine Rds.go ls (fun _ _ z => z) ?_
   | wp_step))
 refine codeAny_call_builtin SF.slot.plain SF.entry (set_check SF xc hx hc (set_entry xc hpass la I hw hsz fun h' tk' st => ?_))
 repeat (any_goals (first | assumption | wp_step))
 exact hq h' tk' st
end
end L3
namespace L3
open PySem Builtin Builtin.ObjectAttr
section
variable {P : Program} {w : World} {A : Around} {E : Value → Shared → Prop} {h : Heap} {g : Array GenState} {d : Drawn} {t : Nat} {os : OsState} {C x dx : Addr} {bm : List Value}
 {mA : Str → Option Value} {name : Str} {v : Value} {o : Obj} {vs : Array Value}
theorem get_check {M : Model} {nameV : Value} {Q : Unit → Shared → Prop} (xc : XC h C bm) (hx : h.get? x = some o) (hc : o.cls = .ref C) (hq : Q () ⟨h, g, d, t, os⟩) :
   wpAny M A (checkBuiltinCall "BaseException.__getattribute__" ⟨[.ref x, nameV], []⟩) Q E ⟨h, g, d, t, os⟩ := by
 obtain ⟨⟨nm, q, N, bs, sn, sub, ab, col, dd, k0, k1, k2, k3, k5, cC⟩, _, bas, _, _, _⟩ := xc
 have f1 : builtinKind "BaseException.__getattribute__" = some .slot := by decide +kernel
 have f2 : splitId "BaseException.__getattribute__" = some ("BaseException", "__getattribute__") := by decide +kernel
 have c1 : (Value.ref C :: bm).contains (.type "BaseException") = true := has_more bas
 have ha := PySem.F.args_bexc_ga (.ref x) nameV
 simp only [checkBuiltinCall, f1, f2]
 refine wpAny_bind ?_
 unfold isInstance
 repeat (first
   | (with_reducible refine wpAny_loadPart_at hx ?_; rw [hc])
   | (with_reducible refine wpAny_isSubtype_exc cC ?_; rw [c1])
   | wp_step)
 exact hq
end
end L3
namespace L3
open PySem Builtin Builtin.ObjectAttr
section
variable {P : Program} {w : World} {A : Around} {E : Value → Shared → Prop} {h : Heap} {g : Array GenState} {d : Drawn} {t : Nat} {os : OsState} {C x : Addr} {bm : List Value} {o : Obj}
theorem cls_get {R : Result → Shared → Prop} (xc : XC h C bm) (hx : h.get? x = some o) (hc : o.cls = .ref C) (hq : R (.ok (.ret (.ref C))) ⟨h, g, d, t, os⟩) :
   codeAny (model P w) A (.call (.builtin "getset_descriptor.__get__") ⟨[.builtin "object.__class__", .ref x, .ref C], []⟩) R ⟨h, g, d, t, os⟩ := by
 obtain ⟨⟨nm, q, N, bs, sn, sub, ab, col, dd, k0, k1, k2, k3, k5, cC⟩, _, _, ob, _, _⟩ := xc
 have ty : (⟨h, g, d, t, os⟩ : Shared).TypeIs (.builtin "object.__class__") "getset_descriptor" := PySem.F.typeOf_object_class
 have c1 : (Value.ref C :: bm).contains (.type (".".intercalate ("object.__class__".cutAt '.').dropLast)) = true := by
   rw [PySem.F.owner_object_class]
   exact has_more ob
 refine codeAny_call_builtin PySem.F.slot_gs_get.plain PySem.F.entry_gs_get (PySem.F.slot_gs_get.check _ _ _ _ _ _ _ _ ty (PySem.F.args_gs_get _ _ _) ?_)
 repeat (any_goals (first
   | assumption
   | (with_reducible refine wpAny_loadPart_at hx ?_; rw [hc])
   | (with_reducible refine wpAny_isSubtype_exc cC ?_; rw [c1])
   | wp_step))
 refine ⟨Code.quiet_builtin _ (by decide +kernel), codeAny_builtin PySem.F.entry_object_class ?_⟩
 repeat (any_goals (first
   | assumption
   | (with_reducible refine wpAny_loadPart_at hx ?_; rw [hc])
   | wp_step))
theorem cls_entry {tk : Tok} {Q : PySem.Fin → Shared → Prop} (xc : XC h C bm) (lc : Rds (model P w) h (typeLookup (.ref C) "__class__") (some (.builtin "object.__class__"))) (hx : h.get? x = some o) (hc : o.cls = .ref C)
   (hq : Q (.done (.ret (.ref C))) ⟨h, g, d, t, os⟩) : wpAny (model P w) A (Builtin.«object.__getattribute__» ⟨[.ref x, .str "__class__" tk], []⟩) Q E ⟨h, g, d, t, os⟩ := by
 have ty : (⟨h, g, d, t, os⟩ : Shared).TypeIs (.builtin "object.__class__") "getset_descriptor" := PySem.F.typeOf_object_class
 have f5 := PySem.F.typeOf_object_class
 have f6 := PySem.F.slot_gs_get.lookup
 have f7 := PySem.F.slot_gs_set.lookup
 repeat (any_goals (first
   | assumption
   | (with_reducible refine wpAny_loadPart_at hx ?_; rw [hc])
   | with_reducible refine Rds.go lc (fun _ _ z => z) ?_
   | wp_step))
 refine cls_get xc hx hc ?_
 repeat (any_goals (first | assumption | wp_step))
theorem cls_attr {Q : Option Value → Shared → Prop} (FB : ExcAttrFacts "ValueError") (xc : XC h C bm) (lg : Rds (model P w) h (typeLookup (.ref C) "__getattribute__") (some (.builtin "BaseException.__getattribute__")))
   (lh : Rds (model P w) h (typeLookup (.ref C) "__getattr__") none) (lc : Rds (model P w) h (typeLookup (.ref C) "__class__") (some (.builtin "object.__class__"))) (hx : h.get? x = some o) (hc : o.cls = .ref C)
   (hq : Q (some (.ref C)) ⟨h, g, d, t + 1, os⟩) : wpAny (model P w) A (getAttr? (.ref x) "__class__") Q E ⟨h, g, d, t, os⟩ := by
 have f3 := FB.ga.bind (.ref x)
 have e0 : (false && onTheHeap (Value.builtin "BaseException.__getattribute__")) = false := rfl
 have e2 : (Value.builtin "BaseException.__getattribute__" == Value.builtin "object.__getattribute__") = false := by decide +kernel
 have e1 : (onTheHeap (Value.ref C) && Value.builtin "BaseException.__getattribute__" == Value.builtin "object.__getattribute__") = false := by rw [e2]; rfl
 unfold getAttr? getAttrBy?
 repeat (any_goals (first
   | assumption
   | (with_reducible refine wpAny_loadPart_at hx ?_; rw [hc])
   | with_reducible refine Rds.go lg (fun _ _ z => z) ?_
   | with_reducible refine Rds.go lh (fun _ _ z => z) ?_
   | wp_step))
 refine codeAny_call_builtin FB.ga.plain PySem.F.entry_bexc_ga (get_check xc hx hc (cls_entry xc lc hx hc ?_))
 repeat (any_goals (first | assumption | wp_step))
end
end L3
namespace L2
open PySem PySem.Spec PyProof.Rows L3
def onlyVal : List Value → Bool
 | .ref _ :: r => onlyVal r
 | l => l == [.type "ValueError", .type "Exception", .type "BaseException", .type "object"]
theorem refuse_val (self : Value) {l : List Value} (e : onlyVal l = true) : refuseLoop self "__setattr__" l = pure () := by
 induction l with
 | nil => cases e
 | cons c r ih =>
   cases c with
   | ref a =>
     rw [refuseLoop_ref]
     exact ih e
   | type n =>
     rw [show Value.type n :: r = [.type "ValueError", .type "Exception", .type "BaseException", .type "object"] from beq_iff_eq.mp e]
     exact PySem.F.store_ValueError.passes self
   | _ => exact absurd (beq_iff_eq.mp e) (by simp)
def bmOf (K : PySem.W.Frag) (C : Addr) : List Value := match K.lookup C with
 | some ⟨_, _, .cls cd, _⟩ => cd.mro.tail
 | _ => []
def xclsIn (K : PySem.W.Frag) (C : Addr) : Bool := match K.lookup C with
 | some ⟨.type "type", _, .cls cd, sl⟩ => (match cd.mro, sl.toList with
   | .ref C' :: bm, [_, _, _, _, some (.builtin n), _] => C' == C && !cd.hasDel && cd.hasDict && n == "ValueError.__new__" && bm.contains (.type "ValueError") && bm.contains (.type "BaseException") && bm.contains (.type "object") && !bm.contains (.type "AttributeError") && !bm.contains (.type "NameError") && onlyVal bm
   | _, _ => false)
 | _ => false
theorem xc_of {K : PySem.W.Frag} {h : Heap} {C : Addr} (X : K.In h) (q : xclsIn K C = true) : XC h C (bmOf K C) ∧ onlyVal (bmOf K C) = true := by
 unfold xclsIn at q
 split at q
 · rename_i dd cd sl ho
   split at q
   · rename_i C' bm k0 k1 k2 k3 n k5 hm hs
     simp only [Bool.and_eq_true, beq_iff_eq, Bool.not_eq_true'] at q
     obtain ⟨⟨⟨⟨⟨⟨⟨⟨⟨rfl, hdel⟩, hhd⟩, rfl⟩, hv⟩, hb⟩, hob⟩, hA⟩, hN⟩, ho'⟩ := q
     have eb : bmOf K C' = bm := by
       unfold bmOf
       rw [ho]
       show cd.mro.tail = bm
       rw [hm]
       rfl
     obtain ⟨nm, bs, mro, ns, qn, hd, sn, sub, ab, col, del⟩ := cd
     dsimp only at hm hdel hhd
     subst hm hdel hhd
     have hsl : sl = #[k0, k1, k2, k3, some (.builtin "ValueError.__new__"), k5] := by
       obtain ⟨l⟩ := sl
       simp only at hs
       rw [hs]
     subst hsl
     rw [eb]
     exact ⟨⟨⟨nm, qn, ns, bs, sn, sub, ab, col, dd, k0, k1, k2, k3, k5, X _ _ ho⟩, hv, hb, hob, hA, hN⟩, ho'⟩
   · cases q
 · cases q
structure XCls (K : PySem.W.Frag) (C : Addr) : Prop where
 sh : xclsIn K C = true
 ga : PySem.W.findIn K (.ref C) "__getattribute__" = some (some (.builtin "BaseException.__getattribute__"))
 gh : PySem.W.findIn K (.ref C) "__getattr__" = some none
 sa : PySem.W.findIn K (.ref C) "__setattr__" = some (some (.builtin "object.__setattr__"))
 cl : PySem.W.findIn K (.ref C) "__class__" = some (some (.builtin "object.__class__"))
theorem rds_of {K : PySem.W.Frag} {M : Model} {h : Heap} {C : Addr} {name : Str} {r : Option Value} (X : K.In h) (e : PySem.W.findIn K (.ref C) name = some r) : Rds M h (typeLookup (.ref C) name) r := PySem.W.looks_findIn X e
theorem XCls.xc {K : PySem.W.Frag} {h : Heap} {C : Addr} (c : XCls K C) (X : K.In h) : XC h C (bmOf K C) := (xc_of X c.sh).1
theorem XCls.pass {K : PySem.W.Frag} {h : Heap} {C : Addr} (c : XCls K C) (X : K.In h) (self : Value) : refuseLoop self "__setattr__" (bmOf K C) = pure () := refuse_val self (xc_of X c.sh).2
section
variable {X : Cx} {pins : List (Addr × Obj)} {σ : St} {H : Hp} {s : Shared} {h' : Heap}
theorem aft {ch : List Addr} (I : Inv X pins σ H s) (a : Aft (frs X.stack) ch s.heap h') (hc : ∀ b ∈ ch, FpOk X pins H b) : Inv X pins σ H { s with heap := h' } := by
 have nS : ∀ b, b ≠ X.env.locals → b ∉ X.fs → b ∉ frs X.stack := fun b h1 h2 z => (List.mem_cons.mp (I.stkSub b z)).elim h1 h2
 refine I.step (g' := s.gens) (d' := s.drawn) (t' := s.toks) (ch := ch) (fun b hb => ?_) (fun b o h1 h2 h3 e _ => a.keep b o (nS b h1 h2) h3 e) (fun b o _ _ h3 e _ => a.slot b o h3 e) (fun _ _ _ _ n => n)
   (fun b o h3 e => ?_) (fun _ _ e => e) (fun _ _ _ e => e) (fun b ps e => ⟨#[], by rw [e]; simp⟩) (fun m hm => ?_) (fun b u e => ?_) I.bare
 · obtain ⟨_, f1, _, f3, f4, f5⟩ := hc b hb
   exact ⟨f3, f1, f4, f5⟩
 · obtain ⟨sl, q⟩ := a.slot b o h3 e
   exact ⟨_, q⟩
 · obtain ⟨o, es, ep, ho, r⟩ := hm
   obtain ⟨sl, q⟩ := a.slot _ o (fun z => (hc _ z).2.1 rfl) ho
   exact ⟨_, es, ep, q, r⟩
 · refine (I.hok b u e).stay (fun c v hb q => a.keep c v (fun z => ?_) (fun z => ?_) q) (fun _ q => q) fun _ _ q => q
   · rcases hb with rfl | hb
     · rw [I.stkFree c z] at e; cases e
     · rw [I.stkFree c z] at hb; cases hb
   · rcases hb with rfl | hb
     · rw [(hc c z).1] at e; cases e
     · rw [(hc c z).1] at hb; cases hb
theorem track {x : Addr} {o : HO} (I : Inv X pins σ H s) (f : FpOk X pins H x) (new : ObjOk X.prog X.w (upd H x o) s.heap x o) : Inv X pins σ (upd H x o) s := by
 obtain ⟨f0, f1, f2, f3, f4, f5⟩ := f
 have nx : ∀ b u, H b = some u → b ≠ x := fun b u e z => by rw [z, f0] at e; cases e
 refine ⟨I.ok, I.os, I.bare, ⟨I.base.keep, I.base.slot, fun b ob e n hx => ?_, I.base.there, fun b xs e => ?_, fun b ob u e => ?_, fun b ps e => ?_⟩, I.loc, I.cell, ?_, fun y c e => ?_, fun p hp => ?_, fun b u e => ?_, I.len⟩
 · have hb : b ≠ x := fun z => by
     rcases f3 with q | q
     · exact hx (z ▸ q)
     · exact absurd (Nat.lt_of_lt_of_le (Heap.lt_size e) (z ▸ q)) (Nat.lt_irrefl _)
   rw [upd_ne hb]
   exact I.base.free b ob e n hx
 · have q := I.base.tups b xs e
   rw [upd_ne (nx _ _ q)]
   exact q
 · have q := I.base.frzs b ob u e
   rw [upd_ne (nx _ _ q)]
   exact q
 · obtain ⟨more, q⟩ := I.base.tbls b ps e
   exact ⟨more, by rw [upd_ne (nx _ _ q)]; exact q⟩
 · rw [upd_ne (Ne.symm f1)]
   exact I.free
 · rw [upd_ne (f4 y c e)]
   exact I.freeC y c e
 · obtain ⟨e, n, ne, nf, d⟩ := I.pin p hp
   exact ⟨e, by rw [upd_ne (f5 p hp)]; exact n, ne, nf, d⟩
 · by_cases hb : b = x
   · subst hb
     rw [upd_same] at e
     cases e
     exact new
   · rw [upd_ne hb] at e
     exact (I.hok b u e).stay (fun _ _ _ q => q) (fun c q => by rw [upd_ne (nx _ _ q)]; exact q) fun c xs q => by rw [upd_ne (nx _ _ q)]; exact q
end
structure ExIn (X : Cx) (pins : List (Addr × Obj)) (H : Hp) (s : Shared) (x : Addr) (C : Value) (dx : Option Addr) : Prop where
 own : FpOk X pins H x
 tr : Rec s.heap x C dx .none ∨ ∃ T fl, Rec s.heap x C dx (.ref T) ∧ T ≠ x ∧ Tra s.heap T fl ∧ FpOk X pins H T
def XeIs (X : Cx) (R : St → Prop) (Ek : XK) : Prop :=
 ∀ (pins : List (Addr × Obj)) (σ : St) (H : Hp) (s : Shared) (x : Addr) (C : Value) (dx : Option Addr), Inv X pins σ H s → R σ → ExIn X pins H s x C dx → Ek C dx H → X.xe (.ref x) s
def CX1 (P : Program) (w : World) : CXT := fun outer H s E e s' =>
 ∃ (x : Addr) (C : Value) (dx : Option Addr) (T : Addr) (H' : Hp), e = .ref x ∧ s'.os = s.os ∧ AllBare s'.gens ∧ Un (frs outer) [] H H' s.heap s'.heap ∧ HOk P w H' s'.heap ∧ (s.heap.objs.size ≤ x ∧ H' x = none) ∧ (s.heap.objs.size ≤ T ∧ H' T = none) ∧ T ≠ x ∧
   Rec s'.heap x C dx (.ref T) ∧ Tra s'.heap T .none ∧ E C dx H'
section
variable {X : Cx}
theorem pass1 {R : St → Prop} {E : XK} (hx : XeIs X R E) {pins : List (Addr × Obj)} {σ : St} {H : Hp} {s : Shared} {e : Value} {s' : Shared} (I : Inv X pins σ H s) (r : R σ) (h : CX1 X.prog X.w X.stack H s E e s') : X.xe e s' := by
 obtain ⟨x, C, dx, T, H', rfl, os, bare, un, hok, ⟨x1, x2⟩, ⟨t1, t2⟩, ne, rc, tr, q⟩ := h
 have I' : Inv X pins σ H' s' := I.call' os un hok bare (ch := []) (fun _ z => nomatch z)
 exact hx pins σ H' s' x C dx I' r ⟨I.fpOk x1 x2, .inr ⟨T, _, rc, ne, tr, I.fpOk t1 t2⟩⟩ q
end
theorem xe_def {P : Program} {w : World} {K : PySem.W.Frag} {mg : Str → Option Value} {base : Heap} {cm : Bool} {N : List Str} {qual : Str} {scope : Scope} {f : Addr} {cd : Value} {A : Around} {outer : List Env} {s : Shared} {H : Hp} {E : XK} :
   XeIs (cxOf (CX1 P w) cm P w K mg base N qual scope f cd A outer s H E) (fun _ => True) E := by
 intro pins σ H1 s1 x C dx I _ ex e
 show wpAny (model P w) (A.deeper (envOfC qual scope s.heap.objs.size f cd)) (leaving (envOfC qual scope s.heap.objs.size f cd) (.ref x)) (fun _ s2 => CX1 P w outer H s E (.ref x) s2) (fun e' s2 => CX1 P w outer H s E e' s2) s1
 have fin : ∀ (T : Addr) (h2 : Heap), Inv (cxOf (CX1 P w) cm P w K mg base N qual scope f cd A outer s H E) pins σ H1 { s1 with heap := h2 } → s.heap.objs.size ≤ T → H1 T = none → T ≠ x → Rec h2 x C dx (.ref T) → Tra h2 T .none → CX1 P w outer H s E (.ref x) { s1 with heap := h2 } := by
   intro T h2 J t1 t2 ne r t
   obtain ⟨f0, _, _, f3, _⟩ := ex.own
   have x1 : s.heap.objs.size ≤ x := f3.elim (fun z => absurd (show x ∈ ([] : List Addr) from z) (by simp)) id
   exact ⟨x, C, dx, T, H1, rfl, J.os, J.bare, J.base, J.hok, ⟨x1, f0⟩, ⟨t1, t2⟩, ne, r, t, e⟩
 unfold leaving
 rcases ex.tr with r | ⟨T0, fl0, r, ne0, t0, f0⟩
 · refine wpAny_bind (note_new I.ok.frames I.stack rfl r fun h' T a sz r' t' => ?_)
   have xT : T ≠ x := by
     obtain ⟨oe, _, he, _⟩ := r
     exact fun z => absurd (Nat.lt_of_lt_of_le (Heap.lt_size he) (z ▸ sz)) (Nat.lt_irrefl _)
   have hT := I.hok.fresh sz
   have I1 := aft I a (by intro b hb; have : b = x := by simpa using hb
                          subst this; exact ex.own)
   refine flight_none r' xT t' fun h2 a2 r2 t2 => ?_
   have I2 := aft (h' := h2) I1 (a2.mono (by simp) fun _ z => z) (by intro b hb; have : b = T := by simpa using hb
                                                                     subst this; exact I.fpOk sz hT)
   exact fin T h2 I2 (Nat.le_trans I.sz sz) hT xT r2 t2
 · refine wpAny_bind (note_any I.ok.frames I.stack rfl r ne0 t0 fun h' T fl' a sz r' t' => ?_)
   have xT : T ≠ x := by
     obtain ⟨oe, _, he, _⟩ := r
     rcases sz with z0 | z0
     · rw [z0]; exact ne0
     · exact fun z => absurd (Nat.lt_of_lt_of_le (Heap.lt_size he) (z ▸ z0)) (Nat.lt_irrefl _)
   have fT : FpOk (cxOf (CX1 P w) cm P w K mg base N qual scope f cd A outer s H E) pins H1 T := by
     rcases sz with z0 | z0
     · rw [z0]; exact f0
     · exact I.fpOk z0 (I.hok.fresh z0)
   have I1 := aft I a (by intro b hb
                          rcases (show b = x ∨ b = T0 by simpa using hb) with z | z
                          · subst z; exact ex.own
                          · subst z; exact f0)
   refine flight_none r' xT t' fun h2 a2 r2 t2 => ?_
   have I2 := aft (h' := h2) I1 (a2.mono (by simp) fun _ z => z) (by intro b hb; have : b = T := by simpa using hb
                                                                     subst this; exact fT)
   obtain ⟨g0, _, _, g3, _⟩ := fT
   exact fin T h2 I2 (g3.elim (fun z => absurd (show T ∈ ([] : List Addr) from z) (by simp)) id) g0 xT r2 t2
end L2
namespace L2
open PySem PySem.Spec PyProof.Rows L3
section
variable {X : Cx} {x : Str} {C : Addr} {np cpos pos : Pos} {e : Expr} {es : List Expr} {ta : TA} {R : St → Prop} {Ek : XK}
end
def tMethR (R : St → Prop) (C : Addr) (m : Str) (sp : Sp) (dvs : List V) (E : XK) (ta : TE) (t : TA) : TE := fun σ H Q => ta σ H fun x H1 => ∃ a dx fs, x = .ref a ∧ H1 a = some (.ins C dx fs) ∧ fs.lookup m = none ∧
 t σ H1 fun vs H2 => R σ ∧ sp (x :: (vs ++ dvs)) H2 Q E
section
variable {X : Cx} {cm : Bool} {k : Nat} {f C : Addr} {fd : FuncData} {ps : List Str} {sp : Sp} {dvs : List V} {ds : List Value} {E : XK} {R : St → Prop} {x m : Str} {p pos apos : Pos} {e o : Expr} {es : List Expr} {ta : TE} {t : TA}
theorem run_fnR {pins : List (Addr × Obj)} {σ : St} {H : Hp} {s : Shared} {Q : VK} {us : List Value} {vs : List V} (F : FnOk X.prog X.w X.K X.mg X.base (CX1 X.prog X.w) cm k f fd ps sp) (hr : Room cm k X.A) (hb : Binds X.K fd ps ds) (hd : Vals dvs ds) (hx : XeIs X R E)
   (I : Inv X pins σ H s) (r : Vals vs us) (hR : R σ) (h : sp (vs ++ dvs) H Q E) : wpAny (model X.prog X.w) X.A (call (.ref f) us) (EP X pins σ Q) X.xe s := by
 have r2 : Vals (vs ++ dvs) (us ++ ds) := r.append hd
 have hl : (us ++ ds).length = ps.length := by rw [← r2.length]; exact F.len _ _ _ _ h
 refine wpAny_call (codeAny_mono (F.run X.A X.stack s H ⟨us, []⟩ (us ++ ds) (vs ++ dvs) Q E hr I.env0 (hb s us I.kIn hl) r2 h) fun r s' hq => ?_)
 cases r with
 | error e => exact pass1 hx I hR hq
 | ok fl =>
   cases fl with
   | ret u => exact I.after hq
   | next => exact False.elim hq
   | brk => exact False.elim hq
   | cont => exact False.elim hq
theorem pe_methR {pl : Sem Bool} (he : PE X o ta) (c : Cls X.K C) (hm : Meth X.K C m f) (F : FnOk X.prog X.w X.K X.mg X.base (CX1 X.prog X.w) cm k f fd ps sp) (hr : Room cm k X.A) (hb : Binds X.K fd ps ds) (hd : Vals dvs ds) (hx : XeIs X R E) (ha : PA X (e :: es) t)
   (hst : starEach (e :: es) X.env = (false, eval e X.env) :: starEach es X.env := by rfl) (hpl : (backTo pos (starEach es X.env)).any (·.1) = false := by rfl)
   (ht : eval (.Call (.Attribute o m apos) (e :: es) [] pos) X.env = (do
     let ov ← eval o X.env
     standAt apos.atName
     let (f, first) ← holding [ov] (getMethod ov m pl)
     callWith pos f first (backTo pos (starEach (e :: es) X.env)) (backToKw pos (keywordEach [] X.env))) := by rfl) :
   PE X (.Call (.Attribute o m apos) (e :: es) [] pos) (tMethR R C m sp dvs E ta t) := by
 intro pins s σ H Q I h
 refine PySem.W.methodCall_KW (pl := pl) (thn (he pins s σ H _ I h) fun u s1 ⟨x, H1, I1, rx, a, dx, fs, ex, ea, l, q⟩ => ?_) ht
 subst ex
 obtain rfl : u = Value.ref a := rx
 refine getmeth_ok I1 ea c hm l ?_
 refine PySem.W.callWith_K (first := [.ref a]) (h₀ := X.base) I.ok.mod.kin hm.kp (thn (ha pos pins s1 σ H1 _ I1 q) fun us s2 ⟨vs, H2, I2, r, hR, q2⟩ => ⟨I2.kIn, ?_⟩) hst hpl
 exact run_fnR (us := .ref a :: us) (vs := .ref a :: vs) F hr hb hd hx I2 (.cons rfl r) hR q2
end
structure FunD (K : PySem.W.Frag) (x qual : Str) (st : Stmt) (f : Addr) (fd : FuncData) (dV : Value) : Prop where
 ex : ∃ (oc : Value) (od : Option Addr) (kV doc pm : Value) (an : Option Addr) (cdv ct : Value) (osl : Array (Option Value)),
   fd = PySem.W.fnOf x qual (defArgs st) (defBody st) (defScope st) dV kV doc pm an cdv ct ∧ K.lookup f = some ⟨oc, od, .func fd, osl⟩ ∧ PySem.W.codeIn K cdv qual = true
 kp : PySem.W.keepIn K (.ref f) = true
section
variable {P : Program} {w : World} {K : PySem.W.Frag} {mg : Str → Option Value} {base : Heap} {cm : Bool}
theorem FunD.okX {x qual : Str} {st : Stmt} {f : Addr} {fd : FuncData} {dV : Value} {N ps : List Str} {k : Nat} {sp : Sp} (F : FunD K x qual st f fd dV) (S : FnScope N ps (defScope st)) (len : ∀ vs H Q E, sp vs H Q E → vs.length = ps.length)
   (hbody : ∀ (cdv : Value) (A : Around) (outer : List Env) (s : Shared) (H : Hp) (vs : List V) (Q : VK) (E : XK), Room cm k (A.deeper (envOfC qual (defScope st) s.heap.objs.size f cdv)) → sp vs H Q E →
     ∃ t, PSs (cxOf (CX1 P w) cm P w K mg base N qual (defScope st) f cdv A outer s H E) (defBody st) t ∧ t { nx := fun _ H' => Q .non H', rt := Q } (start N vs) H) : FnOk P w K mg base (CX1 P w) cm (k + 1) f fd ps sp := by
 obtain ⟨oc, od, kV, doc, pm, an, cdv, ct, osl, rfl, lk, hcd⟩ := F.ex
 exact fn_of lk hcd S len fun A outer s H vs Q E hr hsp => hbody cdv A outer s H vs Q E hr hsp
theorem FunD.ok {x qual : Str} {st : Stmt} {f : Addr} {fd : FuncData} {dV : Value} {N ps : List Str} {k : Nat} {sp : Sp} (F : FunD K x qual st f fd dV) (S : FnScope N ps (defScope st)) (len : ∀ vs H Q E, sp vs H Q E → vs.length = ps.length)
   (hbody : ∀ (cdv : Value) (A : Around) (outer : List Env) (s : Shared) (H : Hp) (vs : List V) (Q : VK) (E : XK), Room cm k (A.deeper (envOfC qual (defScope st) s.heap.objs.size f cdv)) → sp vs H Q E →
     ∃ t, PSs (cxOf CX0 cm P w K mg base N qual (defScope st) f cdv A outer s H E).nox (defBody st) t ∧ t { nx := fun _ H' => Q .non H', rt := Q } (start N vs) H) : FnOk P w K mg base CX0 cm (k + 1) f fd ps sp := by
 obtain ⟨oc, od, kV, doc, pm, an, cdv, ct, osl, rfl, lk, hcd⟩ := F.ex
 refine fn_of lk hcd S len fun A outer s H vs Q E hr hsp => ?_
 obtain ⟨t, h, q⟩ := hbody cdv A outer s H vs Q E hr hsp
 exact ⟨t, h.nox, q⟩
theorem FunD.binds {x qual : Str} {st : Stmt} {f : Addr} {fd : FuncData} {dV : Value} {ps : List Str} (F : FunD K x qual st f fd dV)
   (h : ∀ (kV doc pm : Value) (an : Option Addr) (cdv ct : Value) (us : List Value), us.length = ps.length → bindArgs (PySem.W.fnOf x qual (defArgs st) (defBody st) (defScope st) dV kV doc pm an cdv ct) ⟨us, []⟩ = pure (ps.zip us)) : Binds K fd ps [] := by
 obtain ⟨oc, od, kV, doc, pm, an, cdv, ct, osl, rfl, lk, hcd⟩ := F.ex
 exact .all (h kV doc pm an cdv ct)
theorem funD_mk {x qual : Str} {st : Stmt} {f : Addr} {oc dV : Value} {od an : Option Addr} {osl : Array (Option Value)} {kV doc pm cdv ct : Value} (l : K.lookup f = some ⟨oc, od, .func (PySem.W.fnOf x qual (defArgs st) (defBody st) (defScope st) dV kV doc pm an cdv ct), osl⟩)
   (c : PySem.W.codeIn K cdv qual = true) (k : PySem.W.keepIn K (.ref f) = true) : FunD K x qual st f (PySem.W.fnOf x qual (defArgs st) (defBody st) (defScope st) dV kV doc pm an cdv ct) dV := ⟨⟨oc, od, kV, doc, pm, an, cdv, ct, osl, rfl, l, c⟩, k⟩
end
end L2
namespace L2
open PySem PySem.Spec PyProof.Rows L3
abbrev into (X : Cx) (pn : List (Addr × Obj)) (E : Value → Shared → Prop) : Cx := { X with pn := pn, xe := E }
abbrev sup (X : Cx) (x : Addr) : Cx := { X with A := X.A.mark (some (.ref x)), calm := false, xe := fun _ _ => False }
def excO (x : Addr) (C : Value) (dx : Option Addr) : HO := .ext fun h => ∃ o vs, h.get? x = some o ∧ o.cls = C ∧ o.dict = dx ∧ o.data = .fields vs
theorem excO_ok {P : Program} {w : World} {H : Hp} {h : Heap} {x : Addr} {C : Value} {dx : Option Addr} {tb : Value} (r : Rec h x C dx tb) : ObjOk P w H h x (excO x C dx) := by
 obtain ⟨oe, vs, he, hc, hd, hf, _⟩ := r
 refine ⟨⟨oe, vs, he, hc, hd, hf⟩, ⟨oe, he⟩, fun h1 h2 z k => ?_⟩
 obtain ⟨o, vs, e, q⟩ := z
 exact ⟨o, vs, k o e, q⟩
theorem excO_get {P : Program} {w : World} {H : Hp} {h : Heap} {x : Addr} {C : Value} {dx : Option Addr} (hok : HOk P w H h) (e : H x = some (excO x C dx)) : ∃ o vs, h.get? x = some o ∧ o.cls = C ∧ o.dict = dx ∧ o.data = .fields vs := by
 obtain ⟨q, _⟩ := (show ObjOk P w H h x (excO x C dx) from hok x _ e)
 exact q
section
variable {X : Cx} {pins pins' : List (Addr × Obj)} {σ : St} {H : Hp} {s : Shared} {E : Value → Shared → Prop} {D : Ends}
theorem ok_into (ok : X.Ok) (pn : List (Addr × Obj)) (E : Value → Shared → Prop) : (into X pn E).Ok :=
 ⟨ok.mod, ok.kind, ok.glob, ok.blt, ok.above, ok.inj, ok.has, ok.cab, ok.hd, ok.frames, ok.stk, ok.exf, ok.bs, ok.bsz, ok.noex, ok.exfs, ok.funs, ok.frf⟩
theorem ok_outof {pn : List (Addr × Obj)} (ok : (into X pn E).Ok) : X.Ok :=
 ⟨ok.mod, ok.kind, ok.glob, ok.blt, ok.above, ok.inj, ok.has, ok.cab, ok.hd, ok.frames, ok.stk, ok.exf, ok.bs, ok.bsz, ok.noex, ok.exfs, ok.funs, ok.frf⟩
theorem inv_into (I : Inv X pins σ H s) (E : Value → Shared → Prop) : Inv (into X (X.pn ++ pins) E) [] σ H s :=
 ⟨ok_into I.ok _ E, I.os, I.bare, I.base, I.loc, I.cell, I.free, I.freeC, fun p hp => I.pin p (by simpa using hp), I.hok, I.len⟩
theorem inv_outof (I : Inv (into X (X.pn ++ pins) E) pins' σ H s) : Inv X pins σ H s :=
 ⟨ok_outof I.ok, I.os, I.bare, I.base, I.loc, I.cell, I.free, I.freeC, fun p hp => I.pin p (List.mem_append_left _ hp), I.hok, I.len⟩
theorem ok_sup (ok : X.Ok) (x : Addr) : (sup X x).Ok :=
 ⟨ok.mod, ok.kind, ok.glob, ok.blt, ok.above, ok.inj, ok.has, ok.cab, fun z => (by cases z), ok.frames, ok.stk, ok.exf, ok.bs, ok.bsz, ok.noex, ok.exfs, ok.funs, ok.frf⟩
theorem inv_sup (I : Inv X pins σ H s) (x : Addr) : Inv (sup X x) pins σ H s := ⟨ok_sup I.ok x, I.os, I.bare, I.base, I.loc, I.cell, I.free, I.freeC, I.pin, I.hok, I.len⟩
theorem inv_unsup {x : Addr} (ok : X.Ok) (I : Inv (sup X x) pins σ H s) : Inv X pins σ H s := ⟨ok, I.os, I.bare, I.base, I.loc, I.cell, I.free, I.freeC, I.pin, I.hok, I.len⟩
theorem sp_outof {f : Flow} {s' : Shared} (h : SP (into X (X.pn ++ pins) E) [] D f s') : SP X pins D f s' := by
 cases f with
 | next => obtain ⟨σ', H', I, q⟩ := h; exact ⟨σ', H', inv_outof I, q⟩
 | brk => obtain ⟨σ', H', I, q⟩ := h; exact ⟨σ', H', inv_outof I, q⟩
 | cont => obtain ⟨σ', H', I, q⟩ := h; exact ⟨σ', H', inv_outof I, q⟩
 | ret u => obtain ⟨v, σ', H', I, r, q⟩ := h; exact ⟨v, σ', H', inv_outof I, r, q⟩
theorem fp_outof {b : Addr} (f : FpOk (into X (X.pn ++ pins) E) pins' H b) : FpOk X pins H b := by
 obtain ⟨f0, f1, f2, f3, f4, f5⟩ := f
 exact ⟨f0, f1, f2, f3, f4, fun p hp => f5 p (List.mem_append_left _ hp)⟩
end
section
variable {X : Cx}
end
end L2
namespace L2
open PySem PySem.Spec PyProof.Rows L3
theorem kitx_exc {K : PySem.W.Frag} {x C : Addr} (T : XCls K C) : PySem.W.KitX K (.ref x) (.ref C) (fun h => ∃ o, h.get? x = some o ∧ o.cls = .ref C) where
 ty := fun M h _ p => by
   obtain ⟨o, e, c⟩ := p
   exact c ▸ (PySem.W.Looks.ld e).andThen .now
 it := fun M h X _ => by
   obtain ⟨⟨nm, q, N, bs, sn, sub, ab, col, dd, k0, k1, k2, k3, k5, cC⟩, _⟩ := T.xc X
   intro A Q E s k z
   unfold isType loadHead
   exact wpAny_bind (wpAny_loadPart (k _ _ cC) (wpAny_pure z))
 ne := fun h tp dd its n sl X htp => by
   obtain ⟨⟨nm, q, N, bs, sn, sub, ab, col, dd', k0, k1, k2, k3, k5, cC⟩, _⟩ := T.xc X
   refine Bool.eq_false_iff.mpr fun z => ?_
   have e : C = tp := Value.ref.inj (beq_iff_eq.mp z)
   subst e
   rw [cC] at htp
   have z2 := congrArg Obj.data (Option.some.inj htp)
   cases z2
 ca := fun {P w A E Q s} X p k => by
   obtain ⟨o, e, c⟩ := p
   obtain ⟨h, g, d, t, os⟩ := s
   exact cls_attr PySem.F.excAttr_ValueError (T.xc X) (rds_of X T.ga) (rds_of X T.gh) (rds_of X T.cl) e c k
inductive TyX (K : PySem.W.Frag) (H : Hp) : V → Value → Prop where
 | of {x : V} {t : Value} (e : TyOf K H x t) : TyX K H x t
 | exc {a C : Addr} {dx : Option Addr} (e : H a = some (excO a (.ref C) dx)) (T : XCls K C) : TyX K H (.ref a) (.ref C)
def clsV : V → Option Value
 | .ty n => some (.type n)
 | .ref a => some (.ref a)
 | _ => none
theorem clsV_is {c : V} {u t : Value} (e : clsV c = some u) (r : RelV c t) : t = u := by
 cases c with
 | ty n => cases e; exact r
 | ref a => cases e; exact r
 | _ => cases e
def rIs (K : PySem.W.Frag) : List V → Hp → VK → Prop := fun xs H Q => ∃ x c t u b, xs = [x, c] ∧ TyX K H x t ∧ clsV c = some u ∧ PySem.W.kitOne K t u = some b ∧ Q (.bl b) H
section
variable {X : Cx}
theorem call_is : CallR X (.builtin "isinstance") (rIs X.K) := by
 intro pins s σ H xs us Q I r h
 obtain ⟨x, c, t, u, b, rfl, ty, hc, e, q⟩ := h
 cases r with
 | cons r1 r2 =>
   cases r2 with
   | cons r2 r3 =>
     cases r3
     rename_i v1 v2
     rw [clsV_is hc r2]
     cases ty with
     | of ty => exact isinst_ok I r1 ty e fun tk => ⟨.bl b, H, I.tok _, rfl, q⟩
     | @exc a C dx ea T =>
       cases (show v1 = Value.ref a from r1)
       obtain ⟨o, vs, e1, e2, _⟩ := excO_get I.hok ea
       exact PySem.W.kia_one (kitx_exc T) I.kIn ⟨o, e1, e2⟩ e (fun z => nomatch z) fun tk => ⟨.bl b, H, I.tok _, rfl, q⟩
end
section
variable {X : Cx} {e : Expr} {f : Str} {pos : Pos} {ta : TE}
end
end L2
namespace L2
open PySem PySem.Spec PyProof.Rows L3
def bareO (x : Addr) (C : Value) (dx : Option Addr) : HO := .ext fun h => ∃ t, h.get? x = some { cls := C, dict := dx, data := .fields #[.ref t, .none, .none, .none, .bool false, .none] }
theorem bareO_ok {P : Program} {w : World} {H : Hp} {h : Heap} {x t : Addr} {C : Value} {dx : Option Addr} (e : h.get? x = some { cls := C, dict := dx, data := .fields #[.ref t, .none, .none, .none, .bool false, .none] }) : ObjOk P w H h x (bareO x C dx) :=
 ⟨⟨t, e⟩, ⟨_, e⟩, fun h1 h2 ⟨t', z⟩ k => ⟨t', k _ z⟩⟩
theorem bareO_get {P : Program} {w : World} {H : Hp} {h : Heap} {x : Addr} {C : Value} {dx : Option Addr} (hok : HOk P w H h) (e : H x = some (bareO x C dx)) : ∃ t, h.get? x = some { cls := C, dict := dx, data := .fields #[.ref t, .none, .none, .none, .bool false, .none] } :=
 (show ObjOk P w H h x (bareO x C dx) from hok x _ e).1
theorem within_xd {fs : List (Str × V)} {mA : Str → Option Value} (rel : ∀ f, RelO (fs.lookup f) (mA f)) : PySem.Within mA (fs.map (·.1)) := fun g hg => by
 cases q : fs.lookup g with
 | none => exact absurd (RelO.none_of (by rw [← q]; exact rel g)) hg
 | some v => exact List.mem_map.mpr ⟨(g, v), PySem.mem_of_lookup q, rfl⟩
theorem rel_put {fs : List (Str × V)} {mA : Str → Option Value} {f : Str} {y : V} {u : Value} (rel : ∀ g, RelO (fs.lookup g) (mA g)) (ry : RelV y u) (g : Str) : RelO ((putF f y fs).lookup g) (if g = f then some u else mA g) := by
 rw [lookup_putF]
 by_cases q : g = f
 · rw [if_pos q, if_pos q]; exact ry
 · rw [if_neg q, if_neg q]; exact rel g
section
variable {X : Cx} {pins : List (Addr × Obj)} {σ : St} {H : Hp} {s : Shared} {A : Around} {E : Value → Shared → Prop} {a C : Addr} {f : Str} {y : V} {u : Value} {Q : Unit → Shared → Prop}
theorem setb_new (I : Inv X pins σ H s) (ea : H a = some (bareO a (.ref C) none)) (T : XCls X.K C) (n : NoAttr X.K C f) (ry : RelV y u)
   (h : ∀ d s', H d = none → d ≠ a → Inv X pins σ (upd (upd H d (.xd (putF f y []))) a (bareO a (.ref C) (some d))) s' → Q () s') : wpAny (model X.prog X.w) A (setAttr (.ref a) f u) Q E s := by
 obtain ⟨t, e0⟩ := bareO_get I.hok ea
 obtain ⟨hp, g, dr, tk, os⟩ := s
 have KX := I.kIn
 refine set_attr (mA := fun _ => none) (ns := []) PySem.F.store_ValueError (T.xc KX) (T.pass KX) (rds_of KX T.sa) (rds_of KX n) ⟨_, e0, rfl, (fun c z => nomatch z), .inl ⟨rfl, fun _ => rfl⟩⟩ (fun g hg => absurd rfl hg) (Nat.zero_le _) fun h' tk' st => ?_
 obtain ⟨⟨o', i1, i2, i3, i4⟩, keep, same, newd⟩ := st
 obtain ⟨o1, s1, s2, s3, s4, _⟩ := same _ e0
 obtain ⟨o2, n1, n2⟩ := newd _ e0 rfl
 have q1 : o2 = o1 := Option.some.inj (n1.symm.trans s1)
 have q2 : o' = o1 := Option.some.inj (i1.symm.trans s1)
 rw [q1] at n2
 rw [q2] at i4
 have hne : hp.objs.size ≠ a := Nat.ne_of_gt (Heap.lt_size e0)
 have hd : H hp.objs.size = none := I.hok.fresh (Nat.le_refl _)
 rcases i4 with ⟨z, _⟩ | ⟨d', z, z2, ns⟩
 · rw [n2] at z; cases z
 · rw [n2] at z
   cases z
   have e1 : h'.get? a = some { cls := .ref C, dict := some hp.objs.size, data := .fields #[.ref t, .none, .none, .none, .bool false, .none] } := by
     rw [s1]
     obtain ⟨oc, od, odt, osl⟩ := o1
     dsimp only at s2 s3 s4 n2
     subst s2 s3 s4 n2
     rfl
   have kp : ∀ b o, b ≠ a → hp.get? b = some o → h'.get? b = some o := fun b o hb e => keep b o hb (fun o0 dx q1 q2 => by rw [e0] at q1; cases q1; cases q2) e
   refine h hp.objs.size _ hd hne (I.step (g' := g) (d' := dr) (t' := tk') (ch := []) (fun _ z => nomatch z) (fun b o _ _ _ e nb => kp b o (fun z => by rw [z, ea] at nb; cases nb) e) (fun b o _ _ _ e nb => ⟨o.slots, kp b o (fun z => by rw [z, ea] at nb; cases nb) e⟩)
     (fun b o _ e nb => ?_) (fun b o _ e => ?_) (fun b xs e => ?_) (fun b o v e => ?_) (fun b ps e => ?_) (fun m hm => ?_) (fun b v e => ?_) I.bare)
   · rw [upd_ne (fun z => by rw [z, ea] at nb; cases nb), upd_ne (Nat.ne_of_lt (Heap.lt_size e))]
     exact nb
   · by_cases hb : b = a
     · exact ⟨_, hb ▸ e1⟩
     · exact ⟨o, kp b o hb e⟩
   · rw [upd_ne (fun z => by rw [z, ea] at e; cases e), upd_ne (ne_of_none e hd)]
     exact e
   · rw [upd_ne (fun z => by rw [z, ea] at e; cases e), upd_ne (ne_of_none e hd)]
     exact e
   · exact ⟨#[], by rw [upd_ne (fun z => by rw [z, ea] at e; cases e), upd_ne (ne_of_none e hd), e]; simp⟩
   · obtain ⟨o, es, ep, ho, r⟩ := hm
     exact ⟨o, es, ep, kp _ o (fun z => by have q := I.free; rw [z, ea] at q; cases q) ho, r⟩
   · by_cases hb : b = a
     · subst hb
       rw [upd_same] at e
       cases e
       exact bareO_ok e1
     · rw [upd_ne hb] at e
       by_cases hb2 : b = hp.objs.size
       · subst hb2
         rw [upd_same] at e
         cases e
         exact ⟨_, ns, fun g => rel_put (fs := []) (mA := fun _ => none) (fun _ => True.intro) ry g⟩
       · rw [upd_ne hb2] at e
         refine (I.hok b v e).stay (fun c o hc q => kp c o (fun z => ?_) q) (fun c q => ?_) fun c xs q => ?_
         · rcases hc with rfl | hc
           · exact hb z
           · rw [z, ea] at hc; cases hc
         · rw [upd_ne (fun z => by rw [z, ea] at q; cases q), upd_ne (ne_of_none q hd)]; exact q
         · rw [upd_ne (fun z => by rw [z, ea] at q; cases q), upd_ne (ne_of_none q hd)]; exact q
theorem setb_more {d : Addr} {fs : List (Str × V)} (I : Inv X pins σ H s) (ea : H a = some (bareO a (.ref C) (some d))) (ed : H d = some (.xd fs)) (T : XCls X.K C) (n : NoAttr X.K C f) (hl : fs.length < 1000) (ry : RelV y u)
   (h : ∀ s', Inv X pins σ (upd H d (.xd (putF f y fs))) s' → Q () s') : wpAny (model X.prog X.w) A (setAttr (.ref a) f u) Q E s := by
 obtain ⟨t, e0⟩ := bareO_get I.hok ea
 obtain ⟨mA, hn, rel⟩ := (show ObjOk X.prog X.w H s.heap d (.xd fs) from I.hok d _ ed)
 obtain ⟨hp, g, dr, tk, os⟩ := s
 have KX := I.kIn
 have hda : d ≠ a := fun z => by rw [z, ea] at ed; cases ed
 refine set_attr (mA := mA) (ns := fs.map (·.1)) PySem.F.store_ValueError (T.xc KX) (T.pass KX) (rds_of KX T.sa) (rds_of KX n) ⟨_, e0, rfl, (fun c z => nomatch z), .inr ⟨d, rfl, hda, hn⟩⟩ (within_xd rel) (by rw [List.length_map, sizeLine_eq]; omega) fun h' tk' st => ?_
 obtain ⟨⟨o', i1, i2, i3, i4⟩, keep, same, newd⟩ := st
 obtain ⟨o1, s1, s2, s3, s4, s5⟩ := same _ e0
 have n2 := s5 d rfl
 have q2 : o' = o1 := Option.some.inj (i1.symm.trans s1)
 rw [q2] at i4
 rcases i4 with ⟨z, _⟩ | ⟨d', z, z2, ns⟩
 · rw [n2] at z; cases z
 · rw [n2] at z
   cases z
   have e1 : h'.get? a = some { cls := .ref C, dict := some d, data := .fields #[.ref t, .none, .none, .none, .bool false, .none] } := by
     rw [s1]
     obtain ⟨oc, od, odt, osl⟩ := o1
     dsimp only at s2 s3 s4 n2
     subst s2 s3 s4 n2
     rfl
   have kp : ∀ b o, b ≠ d → hp.get? b = some o → h'.get? b = some o := fun b o hb e => by
     by_cases z : b = a
     · rw [z] at e ⊢
       rw [e0] at e
       cases e
       exact e1
     · exact keep b o z (fun o0 dx q1 q2 => by rw [e0] at q1; cases q1; cases q2; exact hb) e
   refine h _ (I.step (g' := g) (d' := dr) (t' := tk') (ch := []) (fun _ z => nomatch z) (fun b o _ _ _ e nb => kp b o (fun z => by rw [z, ed] at nb; cases nb) e) (fun b o _ _ _ e nb => ⟨o.slots, kp b o (fun z => by rw [z, ed] at nb; cases nb) e⟩)
     (fun b o _ e nb => ?_) (fun b o _ e => ?_) (fun b xs e => ?_) (fun b o v e => ?_) (fun b ps e => ?_) (fun m hm => ?_) (fun b v e => ?_) I.bare)
   · rw [upd_ne (fun z => by rw [z, ed] at nb; cases nb)]
     exact nb
   · by_cases hb : b = d
     · obtain ⟨od, _, _, q, _⟩ := ns
       exact ⟨_, hb ▸ q⟩
     · exact ⟨o, kp b o hb e⟩
   · rw [upd_ne (fun z => by rw [z, ed] at e; cases e)]
     exact e
   · rw [upd_ne (fun z => by rw [z, ed] at e; cases e)]
     exact e
   · exact ⟨#[], by rw [upd_ne (fun z => by rw [z, ed] at e; cases e), e]; simp⟩
   · obtain ⟨o, es, ep, ho, r⟩ := hm
     exact ⟨o, es, ep, kp _ o (fun z => by have q := I.free; rw [z, ed] at q; cases q) ho, r⟩
   · by_cases hb : b = d
     · subst hb
       rw [upd_same] at e
       cases e
       exact ⟨_, ns, fun g => rel_put rel ry g⟩
     · rw [upd_ne hb] at e
       refine (I.hok b v e).stay (fun c o hc q => kp c o (fun z => ?_) q) (fun c q => ?_) fun c xs q => ?_
       · rcases hc with rfl | hc
         · exact hb z
         · rw [z, ed] at hc; cases hc
       · rw [upd_ne (fun z => by rw [z, ed] at q; cases q)]; exact q
       · rw [upd_ne (fun z => by rw [z, ed] at q; cases q)]; exact q
theorem letgo {x : Addr} {C : Value} {dx : Option Addr} (I : Inv X pins σ H s) (e : H x = some (bareO x C dx)) : Inv X pins σ (fun b => if b = x then none else H b) s := by
 have go : ∀ {b : Addr} {o : HO}, (fun b => if b = x then none else H b) b = some o → H b = some o := fun {b o} q => by
   dsimp only at q
   split at q
   · cases q
   · exact q
 have off : ∀ {b : Addr}, H b = none → (fun b => if b = x then none else H b) b = none := fun {b} q => by
   dsimp only
   split
   · rfl
   · exact q
 have on : ∀ {b : Addr} {o : HO}, H b = some o → o ≠ bareO x C dx → (fun b => if b = x then none else H b) b = some o := fun {b o} q ne => by
   dsimp only
   rw [if_neg (fun z => ne (by rw [z, e] at q; exact (Option.some.inj q).symm))]
   exact q
 refine ⟨I.ok, I.os, I.bare, ⟨I.base.keep, I.base.slot, fun b ob q n hx => off (I.base.free b ob q n hx), I.base.there, fun b xs q => on (I.base.tups b xs q) (fun z => nomatch z), fun b ob u q => on (I.base.frzs b ob u q) (fun z => nomatch z), fun b ps q => ?_⟩, I.loc, I.cell, off I.free, fun y c q => off (I.freeC y c q), fun p hp => ?_, fun b u q => ?_, I.len⟩
 · obtain ⟨more, q'⟩ := I.base.tbls b ps q
   exact ⟨more, on q' (fun z => nomatch z)⟩
 · obtain ⟨q, n, r⟩ := I.pin p hp
   exact ⟨q, off n, r⟩
 · exact (I.hok b u (go q)).stay (fun _ _ _ z => z) (fun c z => on z (fun z => nomatch z)) fun c xs z => on z (fun z => nomatch z)
end
def sFldB (K : PySem.W.Frag) (ta tv : TE) (f : Str) : TS := fun D σ H => tv σ H fun y H1 => ta σ H1 fun x H2 => ∃ a C, x = .ref a ∧ XCls K C ∧ NoAttr K C f ∧
 ((H2 a = some (bareO a (.ref C) none) ∧ ∀ d, H2 d = none → d ≠ a → D.nx σ (upd (upd H2 d (.xd (putF f y []))) a (bareO a (.ref C) (some d)))) ∨
  (∃ d fs, H2 a = some (bareO a (.ref C) (some d)) ∧ H2 d = some (.xd fs) ∧ fs.length < 1000 ∧ D.nx σ (upd H2 d (.xd (putF f y fs)))))
section
variable {X : Cx} {o value : Expr} {f : Str} {pos pos' : Pos} {ta tv : TE}
theorem ps_fldB (ha : PE X o ta) (hv : PE X value tv) (hs : swapsWith value (some (.Attribute o f pos')) pos.line X.env = pure false) : PS X (.Assign [.Attribute o f pos'] value pos) (sFldB X.K ta tv f) := by
 intro pins s σ H D I h
 refine plainObj_wpAny_Assign_Attribute (thn (hv pins s σ H _ I h) fun u s1 ⟨y, H1, I1, ry, q⟩ => thn (ha pins s1 σ H1 _ I1 q) fun ov s2 ⟨x, H2, I2, rx, a, C, ex, T, n, q2⟩ => ?_) hs
 subst ex
 obtain rfl : ov = Value.ref a := rx
 rcases q2 with ⟨ea, q2⟩ | ⟨d, fs, ea, ed, l, q2⟩
 · exact setb_new I2 ea T n ry fun d s3 hd hda I3 => ⟨σ, _, I3, q2 d hd hda⟩
 · exact setb_more I2 ea ed T n l ry fun s3 I3 => ⟨σ, _, I3, q2⟩
end
def tRaiseI (R : St → Prop) (C : Addr) (sp : Sp) (ta : TA) (Ek : XK) : TS := fun _ σ H => ta σ H fun vs H1 => vs.length ≤ sizeLine ∧ R σ ∧ ∀ x, H1 x = none →
 sp (.ref x :: vs) (upd H1 x (bareO x (.ref C) none)) (fun v H2 => v = .non ∧ ∃ dx, H2 x = some (bareO x (.ref C) dx) ∧ Ek (.ref C) dx (fun b => if b = x then none else H2 b)) E0
section
variable {X : Cx} {cm : Bool} {k : Nat} {fI : Addr} {fd : FuncData} {ps : List Str} {sp : Sp} {x : Str} {C : Addr} {np cpos pos : Pos} {e : Expr} {es : List Expr} {ta : TA} {R : St → Prop} {Ek : XK}
theorem ps_raiseI (hc : X.calm = true) (hxe : XeIs X R Ek) (hg : Gl X x) (hm : X.mg x = some (.ref C)) (T : XCls X.K C) (hi : PySem.W.findIn X.K (.ref C) "__init__" = some (some (.ref fI))) (hfn : PySem.W.isFn X.K (.ref fI) = true)
   (F : FnOk X.prog X.w X.K X.mg X.base CX0 cm k fI fd ps sp) (hr : Room cm (k + 1) X.A) (hb : Binds X.K fd ps []) (ha : PA X (e :: es) ta)
   (hdb : (x == ("__debug__" : Str)) = false := by decide) (he : starEach (e :: es) X.env = (false, eval e X.env) :: starEach es X.env := by rfl) (hpl : (backTo cpos (starEach (e :: es) X.env)).any (·.1) = false := by rfl) :
   PS X (.Raise (some (.Call (.Name x np) (e :: es) [] cpos)) none pos) (tRaiseI R C sp ta Ek) := by
 intro pins s σ H D I h
 refine raise_call (C := C) (bm := bmOf X.K C) (iv := .ref fI) (I.ok.hd hc) hpl (ld_glob I hg hm ⟨rfl, ?_⟩ hdb)
 have hbk : backTo cpos (starEach (e :: es) X.env) = (false, eval e X.env) :: backTo cpos (starEach es X.env) := by rw [he]; rfl
 rw [hbk]
 refine Calls.evalArgs_plain ?_
 rw [← hbk]
 refine thn (ha cpos pins s σ H _ I h) fun us s1 ⟨vs, H1, I1, r, hl, hR, hE⟩ => ?_
 have hlen : us.length ≤ sizeLine := by rw [← r.length]; exact hl
 refine ⟨rfl, hlen, T.xc I1.kIn, rds_of I1.kIn hi, fun h' x' hm' hs' => ?_⟩
 obtain ⟨hp, g, d, t, os⟩ := s1
 have nx : H1 x' = none := I1.hok.fresh hs'
 have fx : FpOk X pins H1 x' := I1.fpOk hs' nx
 obtain ⟨tt, hx2, htn, ht⟩ := hm'.there
 have I2 : Inv X pins σ H1 ⟨h', g, d, t, os⟩ := I1.kept (t' := t) hm'.keeps
 have I3 := track (o := bareO x' (.ref C) none) I2 fx (bareO_ok hx2)
 refine PySem.W.Looks.here (s := ⟨h', g, d, t, os⟩) (PySem.W.bind_fn I3.kIn (.ref x') (beq_iff_eq.mp hfn)) ?_
 have sp1 := hE x' nx
 have rv : Vals (.ref x' :: vs) (.ref x' :: us) := .cons rfl r
 have hln : (Value.ref x' :: us).length = ps.length := by rw [← rv.length]; exact F.len _ _ _ _ sp1
 have hbi : BindsTo ⟨h', g, d, t, os⟩ fd ⟨.ref x' :: us, []⟩ (ps.zip (.ref x' :: us)) := by
   have z := hb ⟨h', g, d, t, os⟩ (.ref x' :: us) I3.kIn (by rw [List.append_nil]; exact hln)
   rw [List.append_nil] at z
   exact z
 refine wpAny_call (codeAny_mono (F.run _ X.stack _ _ ⟨.ref x' :: us, []⟩ (.ref x' :: us) (.ref x' :: vs) _ E0 (hr.make C us []) (I3.env0.make C us []) hbi rv sp1) fun rr s4 hq => ?_)
 cases rr with
 | error e => exact False.elim hq
 | ok fl =>
   cases fl with
   | next => exact False.elim hq
   | brk => exact False.elim hq
   | cont => exact False.elim hq
   | ret u =>
     obtain ⟨v, H2, os2, bare2, un2, hok2, rv2, rfl, dx, ex, hEk⟩ := hq
     have I4 : Inv X pins σ H2 s4 := I3.call' os2 un2 hok2 bare2 (ch := []) (fun _ z => nomatch z)
     obtain ⟨t4, e4⟩ := bareO_get I4.hok ex
     have I5 := letgo I4 ex
     refine ⟨rv2, T.xc I4.kIn, ⟨dx, t4, e4⟩, hxe pins σ _ s4 x' (.ref C) dx I5 hR ⟨⟨if_pos rfl, fx.2⟩, .inl ⟨_, _, e4, rfl, rfl, rfl, rfl⟩⟩ hEk⟩
end
end L2
namespace L2
open PySem PySem.Spec PyProof.Rows L3
section
variable {X : Cx}
theorem op_mulB : OpR X (binaryOp .Mult) (rI IntMulOk fun i j => .int (i * j)) := opI fun _ _ _ _ _ _ _ hc q => mul_int q hc
end
theorem bits_of {x : Int} (lo : -(2 ^ 250 * 2 ^ 250 * 2 ^ 250 * 2 ^ 250) ≤ x) (hi : x ≤ 2 ^ 250 * 2 ^ 250 * 2 ^ 250 * 2 ^ 250) : Builtin.Int.intBits x ≤ 1001 := by
 refine PySem.intBits_le_iff.mpr ?_
 have e : (2 : Nat) ^ 1001 = 2 ^ 250 * 2 ^ 250 * 2 ^ 250 * 2 ^ 250 * 2 := by
   rw [show (1001 : Nat) = 250 + 250 + 250 + 250 + 1 from rfl, Nat.pow_add, Nat.pow_add, Nat.pow_add, Nat.pow_add]
 rw [e]
 omega
theorem mul_of {x y : Int} (l1 : -(2 ^ 250 * 2 ^ 250 * 2 ^ 250 * 2 ^ 250) ≤ x) (h1 : x ≤ 2 ^ 250 * 2 ^ 250 * 2 ^ 250 * 2 ^ 250) (l2 : -(2 ^ 250 * 2 ^ 250 * 2 ^ 250 * 2 ^ 250) ≤ y) (h2 : y ≤ 2 ^ 250 * 2 ^ 250 * 2 ^ 250 * 2 ^ 250) : IntMulOk x y :=
 PySem.IntMulOk.of_le (bits_of l1 h1) (bits_of l2 h2) (by decide)
theorem decT {p : Prop} [Decidable p] {A B : Prop} (h : p) (k : A) : if decide p = true then A else B := by rw [if_pos (decide_eq_true h)]; exact k
theorem decF {p : Prop} [Decidable p] {A B : Prop} (h : ¬ p) (k : B) : if decide p = true then A else B := by rw [if_neg (by simpa using h)]; exact k
theorem dec2 {p : Prop} [Decidable p] {A B : Prop} (h1 : p → A) (h2 : ¬ p → B) : if decide p = true then A else B := by
 by_cases h : p
 · exact decT h (h1 h)
 · exact decF h (h2 h)
theorem ndecT {p : Prop} [Decidable p] {A B : Prop} (h : ¬ p) (k : A) : if (!decide p) = true then A else B := by rw [if_pos (by simp [h])]; exact k
theorem ndecF {p : Prop} [Decidable p] {A B : Prop} (h : p) (k : B) : if (!decide p) = true then A else B := by rw [if_neg (by simp [h])]; exact k
theorem ndec2 {p : Prop} [Decidable p] {A B : Prop} (h1 : ¬ p → A) (h2 : p → B) : if (!decide p) = true then A else B := by
 by_cases h : p
 · exact ndecF h (h2 h)
 · exact ndecT h (h1 h)
end L2
namespace L2
open PySem PySem.Spec PyProof.Rows L3
theorem bt_len : bootBuiltins "len" = some (.builtin "len") := by decide +kernel
theorem bt_isinstance : bootBuiltins "isinstance" = some (.builtin "isinstance") := by decide +kernel
theorem bt_int : bootBuiltins "int" = some (.type "int") := by decide +kernel
theorem bt_bool : bootBuiltins "bool" = some (.type "bool") := by decide +kernel
theorem bt_tuple : bootBuiltins "tuple" = some (.type "tuple") := by decide +kernel
theorem bt_list : bootBuiltins "list" = some (.type "list") := by decide +kernel
theorem bt_str : bootBuiltins "str" = some (.type "str") := by decide +kernel
def Def (K : PySem.W.Frag) (mg : Str → Option Value) (x : Str) (st : Stmt) (dV : Value) : Prop := ∃ f fd, FunD K x x st f fd dV ∧ mg x = some (.ref f)
def Cal (P : Program) (w : World) (K : PySem.W.Frag) (mg : Str → Option Value) (base : Heap) (CX : CXT) (cm : Bool) (k : Nat) (x : Str) (ps : List Str) (ds : List V) (sp : Sp) : Prop :=
 ∃ f fd dvs, FnOk P w K mg base CX cm k f fd ps sp ∧ mg x = some (.ref f) ∧ PySem.W.keepIn K (.ref f) = true ∧ Binds K fd ps [] ∧ Vals ds dvs ∧ Binds K fd ps dvs
theorem FunD.bindsD {K : PySem.W.Frag} {x qual : Str} {st : Stmt} {f T : Addr} {fd : FuncData} {ps : List Str} {ds : List Value} {items : Array Value} {od : Option Addr} {n : Nat} {sl : Array (Option Value)} (F : FunD K x qual st f fd (.ref T))
   (lT : K.lookup T = some ⟨.type "tuple", od, .seq items n, sl⟩) (m : Nat) (hm : m + ds.length = ps.length)
   (h : ∀ (kV doc pm : Value) (an : Option Addr) (cdv ct : Value) (us : List Value), us.length = m →
     ∃ k, bindArgs (PySem.W.fnOf x qual (defArgs st) (defBody st) (defScope st) (.ref T) kV doc pm an cdv ct) ⟨us, []⟩ = seqItems? (.ref T) >>= k ∧ k (some items) = pure (ps.zip (us ++ ds))) : Binds K fd ps ds := by
 obtain ⟨oc, od', kV, doc, pm, an, cdv, ct, osl, rfl, lk, hcd⟩ := F.ex
 intro s us KX hl
 obtain ⟨k, h1, h2⟩ := h kV doc pm an cdv ct us (by rw [List.length_append] at hl; omega)
 exact BindsTo.of_defaults rfl (KX _ _ lT) rfl h1 h2
end L2
namespace L2
open PySem PySem.Spec PyProof.Rows L3
end L2
namespace L2
open PySem PySem.Spec PyProof.Rows L3
theorem Room.sup {cm : Bool} {k : Nat} {A : Around} (r : Room cm k A) (h : Option Value) : Room false k (A.mark h) := ⟨(fun z => nomatch z), r.dp, r.un⟩
end L2
namespace L2
open PySem PySem.Spec PyProof.Rows L3
def eqPl : V → Bool
 | .byt _ => false
 | .flt _ => false
 | _ => true
theorem eqAt_self {A : Around} {s : Shared} {x : V} {v u : Value} (hp : eqPl x = true) (r : RelV x v) (r' : RelV x u) : SeqAt.EqAt A s v u true := by
 cases x with
 | non => cases r; cases r'; exact SeqAt.EqAt.same _
 | bl b => cases r; cases r'; exact SeqAt.EqAt.same _
 | int i =>
   obtain ⟨t, rfl⟩ := r
   obtain ⟨t', rfl⟩ := r'
   have := SeqAt.EqAt.int_int (A := A) (s := s) i t i t'
   rw [beq_self_eq_true] at this
   exact this
 | str i =>
   obtain ⟨t, rfl⟩ := r
   obtain ⟨t', rfl⟩ := r'
   have := SeqAt.EqAt.str_str (A := A) (s := s) i t i t'
   rw [beq_self_eq_true] at this
   exact this
 | byt b => cases hp
 | flt b => cases hp
 | ref a => cases r; cases r'; exact SeqAt.EqAt.same _
 | ty n => cases r; cases r'; exact SeqAt.EqAt.same _
theorem vals_at : ∀ {xs : List V} {us : List Value}, Vals xs us → ∀ j (h : j < us.length), ∃ x, xs[j]? = some x ∧ RelV x us[j] := by
 intro xs us r
 induction r with
 | nil => intro j h; cases h
 | cons r rr ih =>
   intro j h
   cases j with
   | zero => exact ⟨_, rfl, r⟩
   | succ j => exact ih j (by simpa using h)
end L2
namespace L2
open PySem PySem.Spec PyProof.Rows L3
def Cx.inC (X : Cx) (scope : Scope) (cl : List (Str × Addr)) (C : Addr) (s2 : Shared) (H2 : Hp) (fp : List Addr) (N' : List Str) (xe : Value → Shared → Prop) : Cx :=
 { X with N := N', s₀ := s2, H₀ := H2, env := compEnvC scope cl C X.env, outer := X.stack, ex := fp, fn := fun _ => false, pn := [], xe := xe }
def tLC (wi : TI) (te : TE) (js : List Nat) : TE := fun σ H Q => wi σ H fun J H1 => ∃ W : Nat → Nat → List V → Hp → Prop, (∃ m, W 0 m [] H1) ∧ ∀ i m ys H, W i m ys H →
 (J.stop i H ∧ ∀ l, H l = none → Q (.ref l) (upd H l (.lst ys))) ∨ (J.go i H ∧ ys.length < sizeLine ∧ ∃ N : VK, (∀ y H2, N y H2 → ∃ m', m' < m ∧ W (i + 1) m' (ys ++ [y]) H2) ∧ ∀ x H', J.yld i H x H' → te (some x :: js.map (fun j => σ.getD j none)) H' N)
section
variable {X : Cx}
structure LcOk (X : Cx) (x : Str) (scope : Scope) (cl : List (Str × Addr)) (js : List Nat) : Prop where
 clos : closureFor scope X.env = pure cl
 sub : ∀ y c, cl.lookup y = some c → X.env.cells.lookup y = some c
 kind : scope.kind = .function
 cell : ∀ y ∈ scope.names, y.2 ≠ .cell
 names : ∀ y ∈ scope.names, y.2 = .local → scope.names.lookup y.1 = some .local
 loc : scope.names.lookup x = some .local
 has : ∀ y, (((relabel scope X.env).names.lookup y = some .cell) ∨ ((relabel scope X.env).names.lookup y = some .free)) → ∃ c, cl.lookup y = some c
 nd : (x :: js.map (fun j => X.N.getD j "")).Nodup
 fr : ∀ j ∈ js, ∃ y, X.N[j]? = some y ∧ X.env.kindOf y = some .cell ∧ (relabel scope X.env).names.lookup y = some .cell ∧ ∃ c, cl.lookup y = some c
theorem Inv.inC {x : Str} {scope : Scope} {cl : List (Str × Addr)} {js : List Nat} {pins : List (Addr × Obj)} {σ : St} {H2 : Hp} {s2 : Shared} {fp : List Addr} {C D : Addr} {h1 : Heap} {xe : Value → Shared → Prop} {oD : Obj} {m0 : Str → Option Value}
   (L : LcOk X x scope cl js) (I2 : Inv X pins σ H2 s2) (f2 : ∀ b ∈ fp, FpOk X pins H2 b) (fo : ∀ b ∈ fp, ∃ o, s2.heap.get? b = some o) (hC : s2.heap.objs.size ≤ C) (hD : s2.heap.objs.size ≤ D) (hDC : D ≠ C)
   (old : ∀ b o, s2.heap.get? b = some o → h1.get? b = some o) (hns : h1.Ns C m0) (hoD : h1.get? D = some oD) (hdD : ∀ v, oD.data ≠ .cell v) {t' : Nat} :
   Inv (X.inC scope cl C s2 H2 fp (x :: js.map (fun j => X.N.getD j "")) xe) [(D, oD)] (none :: js.map (fun j => σ.getD j none)) H2 { s2 with heap := h1, toks := t' } where
 ok := {
   mod := I2.ok.mod
   kind := L.kind
   glob := I2.ok.glob
   blt := I2.ok.blt
   above := hC
   inj := fun a b c e1 e2 => I2.ok.inj a b c (L.sub a c e1) (L.sub b c e2)
   has := fun y hy => L.has y hy
   cab := fun _ _ z => nomatch z
   hd := I2.ok.hd
   frames := I2.ok.frames
   stk := .inl rfl
   exf := fun b hb => by
     obtain ⟨o, e⟩ := fo b hb
     refine ⟨Nat.ne_of_lt (Nat.lt_of_lt_of_le (Heap.lt_size e) hC), fun y c e' => ?_⟩
     exact (f2 b hb).2.2.2.2.1 y c (L.sub y c e')
   bs := fun b o e => I2.bs b o e
   bsz := Nat.le_trans I2.ok.bsz I2.sz
   noex := fun b o e hb => by
     rcases (f2 b hb).2.2.2.1 with z | z
     · exact I2.ok.noex b o e z
     · exact absurd (Nat.lt_of_lt_of_le (Heap.lt_size e) (Nat.le_trans I2.ok.bsz z)) (Nat.lt_irrefl _)
   exfs := fun b hb z => by
     rcases List.mem_cons.mp (I2.stkSub b z) with e | e
     · exact (f2 b hb).2.1 e
     · exact (f2 b hb).2.2.1 e
   funs := I2.stack
   frf := I2.stkFree }
 os := rfl
 bare := I2.bare
 base := Un.kept old
 loc := by
   refine ⟨m0, hns, fun i y v e1 e2 e3 => ?_⟩
   cases i with
   | zero => cases e2
   | succ k =>
     have e1' : (js.map (fun j => X.N.getD j ""))[k]? = some y := e1
     have e2' : (js.map (fun j => σ.getD j none))[k]? = some (some v) := e2
     rw [List.getElem?_map] at e1' e2'
     cases hj : js[k]? with
     | none => rw [hj] at e1'; cases e1'
     | some j =>
       rw [hj] at e1' e2'
       obtain ⟨y', n1, n2, n3, c, n4⟩ := L.fr j (List.mem_of_getElem? hj)
       have e1'' : X.N.getD j "" = y := Option.some.inj e1'
       have e2'' : σ.getD j none = some v := Option.some.inj e2'
       have : y' = y := by
         rw [List.getD, n1] at e1''
         exact e1''
       subst this
       have hσ : σ[j]? = some (some v) := by
         rw [List.getD] at e2''
         cases q : σ[j]? with
         | none => rw [q] at e2''; cases e2''
         | some z => rw [q] at e2''; exact congrArg some e2''
       obtain ⟨m, hn, hl⟩ := I2.loc
       obtain ⟨u, r, l⟩ := hl j y' v n1 hσ (.inr (.inl n2))
       refine ⟨u, r, ?_⟩
       rcases l with ⟨k1, _⟩ | ⟨_, c', k2, k3⟩
       · rw [n2] at k1; cases k1
       · have : c' = c := by
           have := L.sub _ _ n4
           rw [k2] at this
           exact Option.some.inj this
         subst this
         obtain ⟨o, ho, hd⟩ := k3
         exact .inr ⟨.inl n3, c', n4, o, old _ _ ho, hd⟩
 cell := fun y c e => by
   obtain ⟨v, o, ho, hd⟩ := I2.cell y c (L.sub y c e)
   exact ⟨v, o, old _ _ ho, hd⟩
 free := I2.hok.fresh hC
 freeC := fun y c e => I2.freeC y c (L.sub y c e)
 pin := fun p hp => by
   have e : p = (D, oD) := by simpa [Cx.inC] using hp
   subst e
   refine ⟨hoD, I2.hok.fresh hD, hDC, fun z => ?_, hdD⟩
   rcases List.mem_cons.mp (I2.stkSub D z) with e | e
   · exact absurd I2.lt (by rw [← e]; exact Nat.not_lt.mpr hD)
   · exact I2.nofs hD e
 hok := I2.hok.kept old
 len := by simp [Cx.inC]
theorem lc_core {elt iter : Expr} {x : Str} {px pos cpos : Pos} {scope : Scope} {cl : List (Str × Addr)} {wi : TI} {te : TE} {js : List Nat} {use : Option (Value → Sem Unit)} {Qc : Value → Shared → Prop} {pins : List (Addr × Obj)} {s : Shared} {σ : St} {H : Hp} {Q : VK}
   (hc : X.calm = true) (L : LcOk X x scope cl js) (hi : PI X (.Name x px) iter wi) (G : Cx → Prop)
   (he : ∀ C s2 H2 fp xe, G (X.inC scope cl C s2 H2 fp (x :: js.map (fun j => X.N.getD j "")) xe) → PE (X.inC scope cl C s2 H2 fp (x :: js.map (fun j => X.N.getD j "")) xe) elt te)
   (hG : ∀ (C D : Addr) (s2 : Shared) (H2 : Hp) (fp : List Addr), Inv X pins σ H2 s2 → (∀ b ∈ fp, FpOk X pins H2 b) → (∀ b ∈ fp, ∃ o, s2.heap.get? b = some o) → s2.heap.objs.size < C →
     G (X.inC scope cl C s2 H2 fp (x :: js.map (fun j => X.N.getD j "")) (notedBy (model X.prog X.w) X.A (compEnvC scope cl C X.env) fun e s' => compPost (model X.prog X.w) X.A X.xe use Qc (.ref D) C (.error e) s')))
   (hs : ∀ z, foldedSetIterable iter X.env z = pure z) (I : Inv X pins σ H s) (h : tLC wi te js σ H Q)
   (fin : ∀ (D C : Addr) (H4 : Hp) (s4 : Shared) (m : Str → Option Value), s4.heap.Ns C m → FpOk X pins H4 C → (∀ h', Heap.SameBut C s4.heap h' → Inv X pins σ H4 { s4 with heap := h' }) → Q (.ref D) H4 → compPost (model X.prog X.w) X.A X.xe use Qc (.ref D) C (.ok .next) s4) :
   wpAny (model X.prog X.w) X.A (comprehension (.ListComp elt [⟨.Name x px, iter, [], 0⟩] scope pos) scope X.env cpos (newList []) false (eval iter X.env) use) Qc X.xe s := by
 refine wpAny_comprehension_free (cl := cl) (use := use) rfl hs L.clos L.kind L.names ?_
 refine thn (hi pins s σ H _ I h) fun v s1 h1 => thn h1 fun itv s2 h2 => ?_
 obtain ⟨it, fp, tn, J, H2, e, I2, T, st2, f2, W, ⟨k0, w0⟩, turn⟩ := h2
 subst e
 refine wpAny_newObj_type (wpAny_newFunctionEnv L.cell (by intro y hy; simp at hy) (fun h₁ hns₁ hsb₁ => ?_) L.kind)
 dsimp only at hns₁ hsb₁ ⊢
 generalize hH2 : s2.heap.push { cls := .type "list", dict := none, data := .seq ([] : List Value).toArray } = Hp2 at hns₁ hsb₁ ⊢
 have hC : Hp2.objs.size = s2.heap.objs.size + 1 := by rw [← hH2, Heap.size_push]
 generalize hD0 : s2.heap.objs.size = D at hC ⊢
 generalize hC0 : Hp2.objs.size = C at hC hns₁ hsb₁ ⊢
 have hDC : D ≠ C := by omega
 have below : ∀ b, b < D → b ≠ C := fun b hb => by omega
 have old : ∀ b o, s2.heap.get? b = some o → h₁.get? b = some o := fun b o e =>
   hsb₁.extBut b o (below b (by rw [← hD0]; exact Heap.lt_size e)) (Heap.get?_push_of_some _ (hH2 ▸ Heap.get?_push_of_some _ e))
 have hacc : h₁.get? D = some { cls := .type "list", data := .seq ([] : List Value).toArray 0 } := by
   subst hD0
   exact hsb₁.extBut _ _ hDC (Heap.get?_push_of_some _ (hH2 ▸ Heap.get?_push_size _ rfl))
 have fo : ∀ b ∈ fp, ∃ o, s2.heap.get? b = some o := fun b hb => let ⟨o, e, _⟩ := T.obj _ _ st2 b hb; ⟨o, e⟩
 have flt : ∀ b ∈ fp, b < D := fun b hb => let ⟨o, e⟩ := fo b hb; by rw [← hD0]; exact Heap.lt_size e
 have st1 : tn 0 h₁ := T.keep _ _ _ st2 fun b hb o e => old b o e
 have gx := hG C D s2 H2 fp I2 f2 fo (by omega)
 let R := compPost (model X.prog X.w) X.A X.xe use Qc (.ref D) C
 let xe := notedBy (model X.prog X.w) X.A (compEnvC scope cl C X.env) fun e s' => R (.error e) s'
 let X' := X.inC scope cl C s2 H2 fp (x :: js.map (fun j => X.N.getD j "")) xe
 have I0 : ∀ {t' : Nat}, Inv X' [(D, _)] (none :: js.map (fun j => σ.getD j none)) H2 { s2 with heap := h₁, toks := t' } := fun {t'} =>
   Inv.inC L I2 f2 fo (by omega) (by omega) hDC old hns₁ hacc (fun v z => by cases z)
 have fpk : ∀ {pD : List (Addr × Obj)} {H' : Hp}, (∀ p ∈ pD, p.1 = D) → (∀ b ∈ fp, H' b = none) → ∀ b ∈ fp, FpOk X' pD H' b := fun {pD H'} hp hn b hb => by
   refine ⟨hn b hb, below b (flt b hb), fun z => ?_, .inl hb, fun y c e => (f2 b hb).2.2.2.2.1 y c (L.sub y c e), fun p hp' z => ?_⟩
   · rcases List.mem_cons.mp (I2.stkSub b z) with e | e
     · exact (f2 b hb).2.1 e
     · exact (f2 b hb).2.2.1 e
   · have q := hp p (by simpa [X', Cx.inC] using hp')
     have := flt b hb
     rw [← z, q] at this
     exact Nat.lt_irrefl _ this
 have loop : ∀ s3 : Shared, (∃ k i ys H' its n σ0, Inv X' [(D, { cls := .type "list", data := .seq (its : List Value).toArray n })] (σ0 :: js.map (fun j => σ.getD j none)) H' s3 ∧ tn i s3.heap ∧ (∀ b ∈ fp, H' b = none) ∧ W i k ys H' ∧ Vals ys its ∧ ys.length ≤ sizeLine) →
     codeAny (model X.prog X.w) X.A (.compLoop (.ListComp elt [⟨.Name x px, iter, [], 0⟩] scope pos) 0 (.ref it) (.ref D) (compEnvC scope cl C X.env)) R s3 := by
   rintro s3 ⟨k, hk⟩
   refine codeAny_loop rfl (fun k s3 => ∃ i ys H' its n σ0, Inv X' [(D, { cls := .type "list", data := .seq (its : List Value).toArray n })] (σ0 :: js.map (fun j => σ.getD j none)) H' s3 ∧ tn i s3.heap ∧ (∀ b ∈ fp, H' b = none) ∧ W i k ys H' ∧ Vals ys its ∧ ys.length ≤ sizeLine) (fun k s3 hI => ?_) k hk
   obtain ⟨i, ys, H3, its, n, σ0, I3, st3, fr3, w3, vy, hz⟩ := hI
   show wpAny _ _ ((compTurn (.ListComp elt [⟨.Name x px, iter, [], 0⟩] scope pos) 0 (.ref it) (.ref D) (compEnvC scope cl C X.env)).onRaise (fun x => do noteFrame x (compEnvC scope cl C X.env); theTreesLotGoes x)) _ _ s3
   refine wpAny_noted ?_
   rw [compTurn_list1]
   have hpD : ∀ {o : Obj}, ∀ p ∈ [(D, o)], p.1 = D := fun p hp => by rw [List.mem_singleton.mp hp]
   refine wpAny_bind (wpAny_standAt (wpAny_bind ?_))
   rcases turn i k ys H3 w3 with ⟨stop, qn⟩ | ⟨go, hlen, N, hN, step⟩
   · refine thn (T.done X' rfl rfl rfl hc i _ s3 _ H3 xe I3 (fpk hpD fr3) st3 stop) fun r s4 ⟨hr, I4⟩ => ?_
     subst hr
     refine wpAny_pure ?_
     obtain ⟨m, hn, _⟩ := I4.loc
     obtain ⟨eD, nD, _⟩ := I4.pin (D, _) (List.mem_append_right _ (List.mem_singleton.mpr rfl))
     have fC : FpOk X pins (upd H3 D (.lst ys)) C := I2.fpOk (by omega) (by
       rw [upd_ne (Ne.symm hDC)]
       exact I4.free)
     refine fin D C (upd H3 D (.lst ys)) s4 m hn fC (fun h' sb => ?_) (qn D nD)
     obtain ⟨hh, g, d, t, os'⟩ := s4
     obtain rfl : os' = s2.os := I4.os
     have kp : ∀ b o, b ≠ C → hh.get? b = some o → h'.get? b = some o := fun b o hb e => (sb.2 b hb).trans e
     have lt2 : ∀ b o, s2.heap.get? b = some o → b ≠ C ∧ b ≠ D := fun b o e => by
       have q : b < D := by rw [← hD0]; exact Heap.lt_size e
       exact ⟨below b q, Nat.ne_of_lt q⟩
     have B : Un (frs X.stack) fp H2 H3 s2.heap hh := I4.base
     have hDn : H3 D = none := nD
     have I5 : Inv X pins σ (upd H3 D (.lst ys)) { s2 with heap := h', gens := g, drawn := d, toks := t } := by
       refine I2.call (h' := h') (g' := g) (d' := d) (t' := t) (ch := fp) ⟨?_, ?_, ?_, ?_, ?_, ?_, ?_⟩ ?_ I4.bare ?_
       · exact fun b o e n hb hx => kp b o (lt2 b o e).1 (B.keep b o e n hb hx)
       · intro b o e n hb hx
         obtain ⟨sl, q⟩ := B.slot b o e n hb hx
         exact ⟨sl, kp b _ (lt2 b o e).1 q⟩
       · intro b o e n hx
         rw [upd_ne (lt2 b o e).2]
         exact B.free b o e n hx
       · intro b o e hx
         obtain ⟨o', q⟩ := B.there b o e hx
         exact ⟨o', kp b o' (lt2 b o e).1 q⟩
       · intro b xs e
         have q := B.tups b xs e
         rw [upd_ne (ne_of_none q hDn)]
         exact q
       · intro b o u e
         have q := B.frzs b o u e
         rw [upd_ne (ne_of_none q hDn)]
         exact q
       · intro b ps e
         obtain ⟨more, q⟩ := B.tbls b ps e
         exact ⟨more, by rw [upd_ne (ne_of_none q hDn)]; exact q⟩
       · intro b u e
         by_cases hb : b = D
         · subst hb
           rw [upd_same] at e
           cases e
           exact ⟨hz, its, n, vy, kp _ _ hDC eD⟩
         · rw [upd_ne hb] at e
           have nC : ∀ c o, H3 c = some o → c ≠ C := fun c o q => ne_of_none q I4.free
           refine (I4.hok b u e).stay (fun c v hc' q => kp c v ?_ q) (fun c q => by rw [upd_ne (ne_of_none q hDn)]; exact q) fun c xs q => by rw [upd_ne (ne_of_none q hDn)]; exact q
           rcases hc' with z | z
           · rw [z]; exact nC b u e
           · exact nC c _ z
       · intro b hb
         obtain ⟨_, f1, _, f3, f4, f5⟩ := f2 b hb
         exact ⟨f3, f1, f4, f5⟩
     exact I5
   · refine thn (T.item X' rfl rfl rfl hc i _ s3 _ H3 xe I3 (fpk hpD fr3) st3 go) fun r s4 ⟨u, hr, h4⟩ => ?_
     subst hr
     refine wpAny_bind (thn h4 fun _ s5 ⟨xv, H5, I5, r5, y5, st5, fr5⟩ => ?_)
     have I5' := I5.pinned (fpk hpD fr5) (T.obj _ _ st5)
     refine wpAny_bind (thn (pg_name (X := X') (i := 0) L.nd rfl (Or.inl (lookup_relabel_local L.loc)) (Or.inr (lookup_relabel_local L.loc)) _ s5 _ H5 xv u (fun σ6 H6 => σ6 = some xv :: js.map (fun j => σ.getD j none) ∧ H6 = H5) I5' r5 ⟨rfl, rfl⟩) fun _ s6 ⟨σ6, H6, I6, e6, e6'⟩ => ?_)
     subst e6 e6'
     refine wpAny_bind (wpAny_bind (thn (he C s2 H2 fp xe gx _ s6 _ _ _ I6 (step xv _ y5)) fun y s7 ⟨yv, H7, I7, ry, n7⟩ => ?_))
     obtain ⟨m', hm, w7⟩ := hN yv H7 n7
     have I7' := I7.unpinned
     obtain ⟨eD, nD, neC, nfs, _⟩ := I7'.pin (D, _) (List.mem_append_right _ (List.mem_singleton.mpr rfl))
     have eD' : s7.heap.get? D = some { cls := .type "list", data := .seq its.toArray n } := eD
     have lv := vy.length
     refine wpAny_bind (call_meets F.slot_list_append ⟨_, eD', rfl⟩ F.entry_list_append (F.args_list_append_2 _ _) (PySem.list_append D its.toArray n y (by rw [List.size_toArray]; omega)) ⟨eD', ?_⟩)
     refine wpAny_pure (wpAny_pure ⟨rfl, m', hm, i + 1, ys ++ [yv], H7, its ++ [y], ?_⟩)
     have q := PySem.IsL.update eD' (fun a : Array Value => a.push y)
     have I8 : Inv X' [] (some xv :: js.map (fun j => σ.getD j none)) H7 { s7 with heap := s7.heap.update D (Obj.mapSeq (fun a : Array Value => a.push y)) } :=
       (I7'.pins_of (pins' := []) (fun p hp => nomatch hp)).turned (t' := s7.toks) (it := D) (fun b o hb e => (Heap.get?_update_other s7.heap _ (Ne.symm hb)).trans e) nD neC (.inr (by show s2.heap.objs.size ≤ D; omega))
         (fun z c e w => by
           obtain ⟨v', o', ho', _⟩ := I2.cell z c (L.sub z c e)
           have := Heap.lt_size ho'
           rw [w, hD0] at this
           exact Nat.lt_irrefl _ this) (fun p hp => nomatch hp)
     have pinf : ∀ b ∈ fp, ∀ o, s5.heap.get? b = some o → s7.heap.get? b = some o ∧ H7 b = none := fun b hb o e => by
       have z := I7.pin (b, o) (List.mem_append_right _ (List.mem_append_right _ (mem_pinsAt hb e)))
       exact ⟨z.1, z.2.1⟩
     obtain ⟨n', q'⟩ : ∃ n', (s7.heap.update D (Obj.mapSeq (fun a : Array Value => a.push y))).get? D = some { cls := .type "list", data := .seq (its ++ [y]).toArray n' } := by
       rw [show (its ++ [y]).toArray = its.toArray.push y by simp]
       exact ⟨_, q⟩
     refine ⟨n', some xv, I8.pins_of fun p hp => ?_, ?_, fun b hb => ?_, w7, vy.append (.cons ry .nil), by rw [List.length_append, List.length_singleton]; omega⟩
     · rw [List.mem_singleton.mp hp]
       exact ⟨q', nD, neC, nfs, fun v z => by cases z⟩
     · refine T.keep _ _ _ st5 fun b hb o e => ?_
       have hb' : D ≠ b := fun z => by
         have := flt b hb
         rw [← z] at this
         exact Nat.lt_irrefl _ this
       exact (Heap.get?_update_other s7.heap _ hb').trans (pinf b hb o e).1
     · obtain ⟨o, e, _⟩ := T.obj _ _ st5 b hb
       exact (pinf b hb o e).2
 have start : ∀ {t' : Nat}, ∃ k i ys H' its n σ0, Inv X' [(D, { cls := .type "list", data := .seq (its : List Value).toArray n })] (σ0 :: js.map (fun j => σ.getD j none)) H' { s2 with heap := h₁, toks := t' } ∧ tn i h₁ ∧ (∀ b ∈ fp, H' b = none) ∧ W i k ys H' ∧ Vals ys its ∧ ys.length ≤ sizeLine := fun {t'} =>
   ⟨k0, 0, [], H2, [], 0, none, I0, st1, fun b hb => (f2 b hb).1, w0, .nil, Nat.zero_le _⟩
 exact codeAny_compStart_list (loop _ start) (T.self X.A 0 _ _ _ st1 (loop _ start))
theorem pe_lc {elt iter : Expr} {x : Str} {px pos : Pos} {scope : Scope} {cl : List (Str × Addr)} {wi : TI} {te : TE} (js : List Nat) (hc : X.calm = true) (L : LcOk X x scope cl js) (hi : PI X (.Name x px) iter wi)
   (he : ∀ C s2 H2 fp xe, PE (X.inC scope cl C s2 H2 fp (x :: js.map (fun j => X.N.getD j "")) xe) elt te)
   (hs : ∀ z, foldedSetIterable iter X.env z = pure z := by intro _; rfl) :
   PE X (.ListComp elt [⟨.Name x px, iter, [], 0⟩] scope pos) (tLC wi te js) := by
 intro pins s σ H Q I h
 rw [eval_ListComp]
 exact lc_core (use := none) hc L hi (fun _ => True) (fun C s2 H2 fp xe _ => he C s2 H2 fp xe) (fun _ _ _ _ _ _ _ _ _ => trivial) hs I h fun D C H4 s4 m hn _ I4 q => ⟨m, hn, fun h' sb => ⟨.ref D, H4, I4 h' sb, rfl, q⟩⟩
end
end L2
namespace L2
open PySem PySem.Spec PyProof.Rows L3
theorem lc_list {K : PySem.W.Frag} {a : Addr} {xs : List V} {T : V → Hp → VK → Prop} {R : Addr → Hp → List V → Prop} {H : Hp} (Pv : Nat → List V → Hp → Prop) (h0 : Pv 0 [] H) (hn : xs.length ≤ sizeLine) (hl : ∀ i ys H, i ≤ xs.length → Pv i ys H → SqL K H a xs ∧ ys.length = i)
   (hs : ∀ i x ys H, xs[i]? = some x → Pv i ys H → T x H fun y H2 => Pv (i + 1) (ys ++ [y]) H2) (hd : ∀ ys H, Pv xs.length ys H → ∀ l, H l = none → R l H ys) :
   ∃ W : Nat → Nat → List V → Hp → Prop, (∃ m, W 0 m [] H) ∧ ∀ i m ys H, W i m ys H →
     ((Itl K a).stop i H ∧ ∀ l, H l = none → R l H ys) ∨ ((Itl K a).go i H ∧ ys.length < sizeLine ∧ ∃ N : VK, (∀ y H2, N y H2 → ∃ m', m' < m ∧ W (i + 1) m' (ys ++ [y]) H2) ∧ ∀ x H', (Itl K a).yld i H x H' → T x H' N) := by
 refine ⟨fun i m ys H => m = xs.length - i ∧ i ≤ xs.length ∧ Pv i ys H, ⟨xs.length, by simp, Nat.zero_le _, h0⟩, ?_⟩
 rintro i m ys H ⟨rfl, hi, p⟩
 obtain ⟨q, hy⟩ := hl i ys H hi p
 by_cases hlt : i < xs.length
 · refine .inr ⟨⟨xs, xs[i], q, by simp [hlt]⟩, by omega, fun y H2 => Pv (i + 1) (ys ++ [y]) H2, fun y H2 p' => ⟨xs.length - (i + 1), by omega, rfl, hlt, p'⟩, fun x H' ⟨e, y⟩ => ?_⟩
   subst e
   exact hs i x ys _ (y xs q) p
 · have e : i = xs.length := by omega
   subst e
   exact .inl ⟨⟨xs, q, Nat.le_refl _⟩, hd ys H p⟩
theorem ints_of : ∀ {ns : List Int} {its : List Value}, Vals (ns.map V.int) its → IntsAre its ns
 | [], _, .nil => .nil
 | n :: r, _, .cons ⟨t, e⟩ rr => by
   subst e
   exact .cons n t (ints_of rr)
section
variable {X : Cx}
theorem call_sum {k : Nat} (hr : Room true k X.A) : CallR X (.builtin "sum") (fun xs H Q => ∃ (p : Addr) (ns : List Int), xs = [.ref p] ∧ SqL X.K H p (ns.map V.int) ∧ Q (.int ns.sum) H) := by
 intro pins s σ H xs us Q I r h
 obtain ⟨p, ns, rfl, hq, q⟩ := h
 obtain ⟨u, rfl, rx⟩ := vals1 r
 cases rx
 obtain ⟨its, r', pl, hz⟩ := I.list hq
 have hi := ints_of r'
 obtain ⟨xs, hx⟩ := hi.allInts.items
 have hl' : s.heap.IsList p (intItems xs) := hx ▸ pl.isList
 refine sum_intListG (hr.hd rfl) hl' fun h' tk t' hk => ?_
 have e1 : ns = xs.toList.map (·.1) := by
   rw [← nums_intItems, ← hx]
   exact (show numsOf its.toArray.toList = ns from hi.numsOf).symm
 have e2 : preSum (numAt xs) xs.size = ns.sum := by
   rw [preSum_eq, List.take_of_length_le (by simp), e1]
 rw [e2]
 exact ⟨.int ns.sum, H, I.kept hk, ⟨t', rfl⟩, q⟩
end
theorem lookup_relabel_not {env : Env} {k : NameKind} : ∀ {names : List (Str × NameKind)} {y : Str}, (∀ z ∈ names, z.2 ≠ .free) → (∀ z ∈ names, z.2 ≠ k) → (names.map fun (n, k) => if (k == NameKind.free && env.scope.kind == .function && env.kindOf n == some .cell) then (n, NameKind.cell) else (n, k)).lookup y = some k → False
 | [], _, _, _, h => by simp at h
 | (n, k') :: r, y, hf, hk, h => by
   have e : (k' == NameKind.free) = false := by simpa using hf (n, k') List.mem_cons_self
   rw [List.map_cons] at h
   simp only [e, Bool.false_and, Bool.false_eq_true, if_false] at h
   rw [List.lookup_cons] at h
   cases hx : y == n with
   | true => rw [hx] at h; exact hk (n, k') List.mem_cons_self (Option.some.inj h)
   | false => rw [hx] at h; exact lookup_relabel_not (fun z hz => hf z (List.mem_cons_of_mem _ hz)) (fun z hz => hk z (List.mem_cons_of_mem _ hz)) h
theorem LcOk.plain {X : Cx} {x : Str} {scope : Scope} (hfree : ∀ y ∈ scope.names, y.2 ≠ .free) (hcell : ∀ y ∈ scope.names, y.2 ≠ .cell) (hkind : scope.kind = .function) (hnames : ∀ y ∈ scope.names, y.2 = .local → scope.names.lookup y.1 = some .local)
   (hloc : scope.names.lookup x = some .local) : LcOk X x scope [] [] where
 clos := closureFor_none hfree
 sub := fun _ _ e => nomatch e
 kind := hkind
 cell := hcell
 names := hnames
 loc := hloc
 has := fun y h => by
   rcases h with h | h
   · exact (lookup_relabel_not hfree hcell h).elim
   · exact (lookup_relabel_not hfree hfree h).elim
 nd := by simp
 fr := fun _ h => nomatch h
theorem bt_sum : bootBuiltins "sum" = some (.builtin "sum") := by decide +kernel
theorem bt_sorted : bootBuiltins "sorted" = some (.builtin "sorted") := by decide +kernel
end L2
namespace L2
open PySem PySem.Spec PyProof.Rows L3
theorem lookup_relabel_free {env : Env} {k : NameKind} (hk : k = .cell ∨ k = .free) : ∀ {names : List (Str × NameKind)} {y : Str}, (∀ z ∈ names, z.2 ≠ .cell) → (names.map fun (n, k) => if (k == NameKind.free && env.scope.kind == .function && env.kindOf n == some .cell) then (n, NameKind.cell) else (n, k)).lookup y = some k → ∃ z ∈ names, z.1 = y ∧ z.2 = .free
 | [], _, _, h => by simp at h
 | (n, k') :: r, y, hc, h => by
   rw [List.map_cons] at h
   have fst : (if (k' == NameKind.free && env.scope.kind == .function && env.kindOf n == some .cell) = true then (n, NameKind.cell) else (n, k')).1 = n := by split <;> rfl
   cases hx : y == n with
   | true =>
     have e : y = n := eq_of_beq hx
     subst e
     by_cases hf : k' = .free
     · exact ⟨(y, k'), List.mem_cons_self, rfl, hf⟩
     · exfalso
       have e : (k' == NameKind.free) = false := by simpa using hf
       simp only [e, Bool.false_and, Bool.false_eq_true, if_false] at h
       rw [List.lookup_cons] at h
       rw [hx] at h
       have h' : k' = k := Option.some.inj h
       rcases hk with z | z
       · exact hc (y, k') List.mem_cons_self (h'.trans z)
       · exact hf (h'.trans z)
   | false =>
     rw [List.lookup_cons] at h
     rw [fst, hx] at h
     obtain ⟨z, m, q⟩ := lookup_relabel_free hk (fun z hz => hc z (List.mem_cons_of_mem _ hz)) h
     exact ⟨z, List.mem_cons_of_mem _ m, q⟩
theorem lookup_mem {cl : List (Str × Addr)} {y : Str} (h : y ∈ cl.map (·.1)) : ∃ c, cl.lookup y = some c := by
 induction cl with
 | nil => cases h
 | cons p r ih =>
   rw [List.lookup_cons]
   cases hx : y == p.1 with
   | true => exact ⟨_, rfl⟩
   | false =>
     rcases List.mem_cons.mp h with e | e
     · rw [e, beq_self_eq_true] at hx; cases hx
     · exact ih e
theorem mem_lookup {cl : List (Str × Addr)} {y : Str} {c : Addr} (h : cl.lookup y = some c) : (y, c) ∈ cl := by
 induction cl with
 | nil => cases h
 | cons p r ih =>
   rw [List.lookup_cons] at h
   cases hx : y == p.1 with
   | true =>
     rw [hx] at h
     have e := eq_of_beq hx
     have e2 : p.2 = c := Option.some.inj h
     rw [show p = (y, c) by rw [e, ← e2]]
     exact List.mem_cons_self
   | false => rw [hx] at h; exact List.mem_cons_of_mem _ (ih h)
theorem LcOk.free {X : Cx} {x : Str} {scope : Scope} {cl : List (Str × Addr)} {js : List Nat} (fns : List Str) (hclos : closureFor scope X.env = pure cl) (hf : cl.map (·.1) = fns) (hsub : ∀ p ∈ cl, X.env.cells.lookup p.1 = some p.2) (hcell : ∀ y ∈ scope.names, y.2 ≠ .cell) (hkind : scope.kind = .function) (hnames : ∀ y ∈ scope.names, y.2 = .local → scope.names.lookup y.1 = some .local)
   (hloc : scope.names.lookup x = some .local) (hcov : ∀ z ∈ scope.names, z.2 = .free → z.1 ∈ fns) (hnd : (x :: js.map (fun j => X.N.getD j "")).Nodup)
   (hfr : ∀ j ∈ js, ∃ y, X.N[j]? = some y ∧ X.env.kindOf y = some .cell ∧ (relabel scope X.env).names.lookup y = some .cell ∧ y ∈ fns) : LcOk X x scope cl js where
 clos := hclos
 sub := fun y c e => hsub (y, c) (mem_lookup e)
 kind := hkind
 cell := hcell
 names := hnames
 loc := hloc
 has := fun y h => by
   have : ∃ z ∈ scope.names, z.1 = y ∧ z.2 = .free := by
     rcases h with h | h
     · exact lookup_relabel_free (.inl rfl) hcell h
     · exact lookup_relabel_free (.inr rfl) hcell h
   obtain ⟨z, m, rfl, e⟩ := this
   exact lookup_mem (by rw [hf]; exact hcov z m e)
 nd := hnd
 fr := fun j hj => by
   obtain ⟨y, a, b, c, d⟩ := hfr j hj
   exact ⟨y, a, b, c, lookup_mem (by rw [hf]; exact d)⟩
end L2
namespace L2
open PySem PySem.Spec PyProof.Rows L3
def tLCIf (wi : TI) (tt : TT) (te : TE) (js : List Nat) : TE := fun σ H Q => wi σ H fun J H1 => ∃ W : Nat → Nat → List V → Hp → Prop, (∃ m, W 0 m [] H1) ∧ ∀ i m ys H, W i m ys H →
 (J.stop i H ∧ ∀ l, H l = none → Q (.ref l) (upd H l (.lst ys))) ∨ (J.go i H ∧ ys.length < sizeLine ∧ ∃ (N : VK) (S : Hp → Prop), (∀ y H2, N y H2 → ∃ m', m' < m ∧ W (i + 1) m' (ys ++ [y]) H2) ∧ (∀ H2, S H2 → ∃ m', m' < m ∧ W (i + 1) m' ys H2) ∧
   ∀ x H', J.yld i H x H' → tt (some x :: js.map (fun j => σ.getD j none)) H' fun b H2 => if b = true then te (some x :: js.map (fun j => σ.getD j none)) H2 N else S H2)
section
variable {X : Cx}
theorem lcIf_core {elt iter c : Expr} {x : Str} {px pos cpos : Pos} {scope : Scope} {cl : List (Str × Addr)} {wi : TI} {te : TE} {tt : TT} {js : List Nat} {use : Option (Value → Sem Unit)} {Qc : Value → Shared → Prop} {pins : List (Addr × Obj)} {s : Shared} {σ : St} {H : Hp} {Q : VK}
   (hc : X.calm = true) (L : LcOk X x scope cl js) (hi : PI X (.Name x px) iter wi)
   (he : ∀ C s2 H2 fp xe, PE (X.inC scope cl C s2 H2 fp (x :: js.map (fun j => X.N.getD j "")) xe) elt te)
   (ht : ∀ C s2 H2 fp xe, PT (X.inC scope cl C s2 H2 fp (x :: js.map (fun j => X.N.getD j "")) xe) c tt)
   (hs : ∀ z, foldedSetIterable iter X.env z = pure z) (I : Inv X pins σ H s) (h : tLCIf wi tt te js σ H Q)
   (fin : ∀ (D C : Addr) (H4 : Hp) (s4 : Shared) (m : Str → Option Value), s4.heap.Ns C m → FpOk X pins H4 C → (∀ h', Heap.SameBut C s4.heap h' → Inv X pins σ H4 { s4 with heap := h' }) → Q (.ref D) H4 → compPost (model X.prog X.w) X.A X.xe use Qc (.ref D) C (.ok .next) s4) :
   wpAny (model X.prog X.w) X.A (comprehension (.ListComp elt [⟨.Name x px, iter, [c], 0⟩] scope pos) scope X.env cpos (newList []) false (eval iter X.env) use) Qc X.xe s := by
 refine wpAny_comprehension_free (cl := cl) (use := use) rfl hs L.clos L.kind L.names ?_
 refine thn (hi pins s σ H _ I h) fun v s1 h1 => thn h1 fun itv s2 h2 => ?_
 obtain ⟨it, fp, tn, J, H2, e, I2, T, st2, f2, W, ⟨k0, w0⟩, turn⟩ := h2
 subst e
 refine wpAny_newObj_type (wpAny_newFunctionEnv L.cell (by intro y hy; simp at hy) (fun h₁ hns₁ hsb₁ => ?_) L.kind)
 dsimp only at hns₁ hsb₁ ⊢
 generalize hH2 : s2.heap.push { cls := .type "list", dict := none, data := .seq ([] : List Value).toArray } = Hp2 at hns₁ hsb₁ ⊢
 have hC : Hp2.objs.size = s2.heap.objs.size + 1 := by rw [← hH2, Heap.size_push]
 generalize hD0 : s2.heap.objs.size = D at hC ⊢
 generalize hC0 : Hp2.objs.size = C at hC hns₁ hsb₁ ⊢
 have hDC : D ≠ C := by omega
 have below : ∀ b, b < D → b ≠ C := fun b hb => by omega
 have old : ∀ b o, s2.heap.get? b = some o → h₁.get? b = some o := fun b o e =>
   hsb₁.extBut b o (below b (by rw [← hD0]; exact Heap.lt_size e)) (Heap.get?_push_of_some _ (hH2 ▸ Heap.get?_push_of_some _ e))
 have hacc : h₁.get? D = some { cls := .type "list", data := .seq ([] : List Value).toArray 0 } := by
   subst hD0
   exact hsb₁.extBut _ _ hDC (Heap.get?_push_of_some _ (hH2 ▸ Heap.get?_push_size _ rfl))
 have fo : ∀ b ∈ fp, ∃ o, s2.heap.get? b = some o := fun b hb => let ⟨o, e, _⟩ := T.obj _ _ st2 b hb; ⟨o, e⟩
 have flt : ∀ b ∈ fp, b < D := fun b hb => let ⟨o, e⟩ := fo b hb; by rw [← hD0]; exact Heap.lt_size e
 have st1 : tn 0 h₁ := T.keep _ _ _ st2 fun b hb o e => old b o e
 let R := compPost (model X.prog X.w) X.A X.xe use Qc (.ref D) C
 let xe := notedBy (model X.prog X.w) X.A (compEnvC scope cl C X.env) fun e s' => R (.error e) s'
 let X' := X.inC scope cl C s2 H2 fp (x :: js.map (fun j => X.N.getD j "")) xe
 have I0 : ∀ {t' : Nat}, Inv X' [(D, _)] (none :: js.map (fun j => σ.getD j none)) H2 { s2 with heap := h₁, toks := t' } := fun {t'} =>
   Inv.inC L I2 f2 fo (by omega) (by omega) hDC old hns₁ hacc (fun v z => by cases z)
 have fpk : ∀ {pD : List (Addr × Obj)} {H' : Hp}, (∀ p ∈ pD, p.1 = D) → (∀ b ∈ fp, H' b = none) → ∀ b ∈ fp, FpOk X' pD H' b := fun {pD H'} hp hn b hb => by
   refine ⟨hn b hb, below b (flt b hb), fun z => ?_, .inl hb, fun y c e => (f2 b hb).2.2.2.2.1 y c (L.sub y c e), fun p hp' z => ?_⟩
   · rcases List.mem_cons.mp (I2.stkSub b z) with e | e
     · exact (f2 b hb).2.1 e
     · exact (f2 b hb).2.2.1 e
   · have q := hp p (by simpa [X', Cx.inC] using hp')
     have := flt b hb
     rw [← z, q] at this
     exact Nat.lt_irrefl _ this
 have loop : ∀ s3 : Shared, (∃ k i ys H' its n σ0, Inv X' [(D, { cls := .type "list", data := .seq (its : List Value).toArray n })] (σ0 :: js.map (fun j => σ.getD j none)) H' s3 ∧ tn i s3.heap ∧ (∀ b ∈ fp, H' b = none) ∧ W i k ys H' ∧ Vals ys its ∧ ys.length ≤ sizeLine) →
     codeAny (model X.prog X.w) X.A (.compLoop (.ListComp elt [⟨.Name x px, iter, [c], 0⟩] scope pos) 0 (.ref it) (.ref D) (compEnvC scope cl C X.env)) R s3 := by
   rintro s3 ⟨k, hk⟩
   refine codeAny_loop rfl (fun k s3 => ∃ i ys H' its n σ0, Inv X' [(D, { cls := .type "list", data := .seq (its : List Value).toArray n })] (σ0 :: js.map (fun j => σ.getD j none)) H' s3 ∧ tn i s3.heap ∧ (∀ b ∈ fp, H' b = none) ∧ W i k ys H' ∧ Vals ys its ∧ ys.length ≤ sizeLine) (fun k s3 hI => ?_) k hk
   obtain ⟨i, ys, H3, its, n, σ0, I3, st3, fr3, w3, vy, hz⟩ := hI
   show wpAny _ _ ((compTurn (.ListComp elt [⟨.Name x px, iter, [c], 0⟩] scope pos) 0 (.ref it) (.ref D) (compEnvC scope cl C X.env)).onRaise (fun x => do noteFrame x (compEnvC scope cl C X.env); theTreesLotGoes x)) _ _ s3
   refine wpAny_noted ?_
   rw [compTurn_list]
   have hpD : ∀ {o : Obj}, ∀ p ∈ [(D, o)], p.1 = D := fun p hp => by rw [List.mem_singleton.mp hp]
   refine wpAny_bind (wpAny_standAt (wpAny_bind ?_))
   rcases turn i k ys H3 w3 with ⟨stop, qn⟩ | ⟨go, hlen, N, S, hN, hS, step⟩
   · refine thn (T.done X' rfl rfl rfl hc i _ s3 _ H3 xe I3 (fpk hpD fr3) st3 stop) fun r s4 ⟨hr, I4⟩ => ?_
     subst hr
     refine wpAny_pure ?_
     obtain ⟨m, hn, _⟩ := I4.loc
     obtain ⟨eD, nD, _⟩ := I4.pin (D, _) (List.mem_append_right _ (List.mem_singleton.mpr rfl))
     have fC : FpOk X pins (upd H3 D (.lst ys)) C := I2.fpOk (by omega) (by
       rw [upd_ne (Ne.symm hDC)]
       exact I4.free)
     refine fin D C (upd H3 D (.lst ys)) s4 m hn fC (fun h' sb => ?_) (qn D nD)
     obtain ⟨hh, g, d, t, os'⟩ := s4
     obtain rfl : os' = s2.os := I4.os
     have kp : ∀ b o, b ≠ C → hh.get? b = some o → h'.get? b = some o := fun b o hb e => (sb.2 b hb).trans e
     have lt2 : ∀ b o, s2.heap.get? b = some o → b ≠ C ∧ b ≠ D := fun b o e => by
       have q : b < D := by rw [← hD0]; exact Heap.lt_size e
       exact ⟨below b q, Nat.ne_of_lt q⟩
     have B : Un (frs X.stack) fp H2 H3 s2.heap hh := I4.base
     have hDn : H3 D = none := nD
     have I5 : Inv X pins σ (upd H3 D (.lst ys)) { s2 with heap := h', gens := g, drawn := d, toks := t } := by
       refine I2.call (h' := h') (g' := g) (d' := d) (t' := t) (ch := fp) ⟨?_, ?_, ?_, ?_, ?_, ?_, ?_⟩ ?_ I4.bare ?_
       · exact fun b o e n hb hx => kp b o (lt2 b o e).1 (B.keep b o e n hb hx)
       · intro b o e n hb hx
         obtain ⟨sl, q⟩ := B.slot b o e n hb hx
         exact ⟨sl, kp b _ (lt2 b o e).1 q⟩
       · intro b o e n hx
         rw [upd_ne (lt2 b o e).2]
         exact B.free b o e n hx
       · intro b o e hx
         obtain ⟨o', q⟩ := B.there b o e hx
         exact ⟨o', kp b o' (lt2 b o e).1 q⟩
       · intro b xs e
         have q := B.tups b xs e
         rw [upd_ne (ne_of_none q hDn)]
         exact q
       · intro b o u e
         have q := B.frzs b o u e
         rw [upd_ne (ne_of_none q hDn)]
         exact q
       · intro b ps e
         obtain ⟨more, q⟩ := B.tbls b ps e
         exact ⟨more, by rw [upd_ne (ne_of_none q hDn)]; exact q⟩
       · intro b u e
         by_cases hb : b = D
         · subst hb
           rw [upd_same] at e
           cases e
           exact ⟨hz, its, n, vy, kp _ _ hDC eD⟩
         · rw [upd_ne hb] at e
           have nC : ∀ c o, H3 c = some o → c ≠ C := fun c o q => ne_of_none q I4.free
           refine (I4.hok b u e).stay (fun c v hc' q => kp c v ?_ q) (fun c q => by rw [upd_ne (ne_of_none q hDn)]; exact q) fun c xs q => by rw [upd_ne (ne_of_none q hDn)]; exact q
           rcases hc' with z | z
           · rw [z]; exact nC b u e
           · exact nC c _ z
       · intro b hb
         obtain ⟨_, f1, _, f3, f4, f5⟩ := f2 b hb
         exact ⟨f3, f1, f4, f5⟩
     exact I5
   · refine thn (T.item X' rfl rfl rfl hc i _ s3 _ H3 xe I3 (fpk hpD fr3) st3 go) fun r s4 ⟨u, hr, h4⟩ => ?_
     subst hr
     refine wpAny_bind (thn h4 fun _ s5 ⟨xv, H5, I5, r5, y5, st5, fr5⟩ => ?_)
     have I5' := I5.pinned (fpk hpD fr5) (T.obj _ _ st5)
     refine wpAny_bind (thn (pg_name (X := X') (i := 0) L.nd rfl (Or.inl (lookup_relabel_local L.loc)) (Or.inr (lookup_relabel_local L.loc)) _ s5 _ H5 xv u (fun σ6 H6 => σ6 = some xv :: js.map (fun j => σ.getD j none) ∧ H6 = H5) I5' r5 ⟨rfl, rfl⟩) fun _ s6 ⟨σ6, H6, I6, e6, e6'⟩ => ?_)
     subst e6 e6'
     refine wpAny_bind (thn (wpAny_tests_one (ht C s2 H2 fp xe _ s6 _ _ _ I6 (step xv _ y5))) fun ok s6b ⟨H6b, I6b, q6b⟩ => ?_)
     cases ok with
     | false =>
       have q6b : S H6b := q6b
       obtain ⟨m', hm, w7⟩ := hS H6b q6b
       have pinf : ∀ b ∈ fp, ∀ o, s5.heap.get? b = some o → s6b.heap.get? b = some o ∧ H6b b = none := fun b hb o e => by
         have z := I6b.pin (b, o) (List.mem_append_right _ (List.mem_append_right _ (mem_pinsAt hb e)))
         exact ⟨z.1, z.2.1⟩
       refine wpAny_pure ⟨rfl, m', hm, i + 1, ys, H6b, its, n, some xv, I6b.unpinned, T.keep _ _ _ st5 fun b hb o e => (pinf b hb o e).1, fun b hb => ?_, w7, vy, hz⟩
       obtain ⟨o, e, _⟩ := T.obj _ _ st5 b hb
       exact (pinf b hb o e).2
     | true =>
       have q6b : te (some xv :: js.map (fun j => σ.getD j none)) H6b N := q6b
       refine wpAny_bind (wpAny_bind (thn (he C s2 H2 fp xe _ s6b _ _ _ I6b q6b) fun y s7 ⟨yv, H7, I7, ry, n7⟩ => ?_))
       obtain ⟨m', hm, w7⟩ := hN yv H7 n7
       have I7' := I7.unpinned
       obtain ⟨eD, nD, neC, nfs, _⟩ := I7'.pin (D, _) (List.mem_append_right _ (List.mem_singleton.mpr rfl))
       have eD' : s7.heap.get? D = some { cls := .type "list", data := .seq its.toArray n } := eD
       have lv := vy.length
       refine wpAny_bind (call_meets F.slot_list_append ⟨_, eD', rfl⟩ F.entry_list_append (F.args_list_append_2 _ _) (PySem.list_append D its.toArray n y (by rw [List.size_toArray]; omega)) ⟨eD', ?_⟩)
       refine wpAny_pure (wpAny_pure ⟨rfl, m', hm, i + 1, ys ++ [yv], H7, its ++ [y], ?_⟩)
       have q := PySem.IsL.update eD' (fun a : Array Value => a.push y)
       have I8 : Inv X' [] (some xv :: js.map (fun j => σ.getD j none)) H7 { s7 with heap := s7.heap.update D (Obj.mapSeq (fun a : Array Value => a.push y)) } :=
         (I7'.pins_of (pins' := []) (fun p hp => nomatch hp)).turned (t' := s7.toks) (it := D) (fun b o hb e => (Heap.get?_update_other s7.heap _ (Ne.symm hb)).trans e) nD neC (.inr (by show s2.heap.objs.size ≤ D; omega))
           (fun z c e w => by
             obtain ⟨v', o', ho', _⟩ := I2.cell z c (L.sub z c e)
             have := Heap.lt_size ho'
             rw [w, hD0] at this
             exact Nat.lt_irrefl _ this) (fun p hp => nomatch hp)
       have pinf : ∀ b ∈ fp, ∀ o, s5.heap.get? b = some o → s7.heap.get? b = some o ∧ H7 b = none := fun b hb o e => by
         have z := I7.pin (b, o) (List.mem_append_right _ (List.mem_append_right _ (mem_pinsAt hb e)))
         exact ⟨z.1, z.2.1⟩
       obtain ⟨n', q'⟩ : ∃ n', (s7.heap.update D (Obj.mapSeq (fun a : Array Value => a.push y))).get? D = some { cls := .type "list", data := .seq (its ++ [y]).toArray n' } := by
         rw [show (its ++ [y]).toArray = its.toArray.push y by simp]
         exact ⟨_, q⟩
       refine ⟨n', some xv, I8.pins_of fun p hp => ?_, ?_, fun b hb => ?_, w7, vy.append (.cons ry .nil), by rw [List.length_append, List.length_singleton]; omega⟩
       · rw [List.mem_singleton.mp hp]
         exact ⟨q', nD, neC, nfs, fun v z => by cases z⟩
       · refine T.keep _ _ _ st5 fun b hb o e => ?_
         have hb' : D ≠ b := fun z => by
           have := flt b hb
           rw [← z] at this
           exact Nat.lt_irrefl _ this
         exact (Heap.get?_update_other s7.heap _ hb').trans (pinf b hb o e).1
       · obtain ⟨o, e, _⟩ := T.obj _ _ st5 b hb
         exact (pinf b hb o e).2
 have start : ∀ {t' : Nat}, ∃ k i ys H' its n σ0, Inv X' [(D, { cls := .type "list", data := .seq (its : List Value).toArray n })] (σ0 :: js.map (fun j => σ.getD j none)) H' { s2 with heap := h₁, toks := t' } ∧ tn i h₁ ∧ (∀ b ∈ fp, H' b = none) ∧ W i k ys H' ∧ Vals ys its ∧ ys.length ≤ sizeLine := fun {t'} =>
   ⟨k0, 0, [], H2, [], 0, none, I0, st1, fun b hb => (f2 b hb).1, w0, .nil, Nat.zero_le _⟩
 exact codeAny_compStart_list (loop _ start) (T.self X.A 0 _ _ _ st1 (loop _ start))
theorem pe_lcIf {elt iter c : Expr} {x : Str} {px pos : Pos} {scope : Scope} {cl : List (Str × Addr)} {wi : TI} {te : TE} {tt : TT} (js : List Nat) (hc : X.calm = true) (L : LcOk X x scope cl js) (hi : PI X (.Name x px) iter wi)
   (ht : ∀ C s2 H2 fp xe, PT (X.inC scope cl C s2 H2 fp (x :: js.map (fun j => X.N.getD j "")) xe) c tt)
   (he : ∀ C s2 H2 fp xe, PE (X.inC scope cl C s2 H2 fp (x :: js.map (fun j => X.N.getD j "")) xe) elt te)
   (hs : ∀ z, foldedSetIterable iter X.env z = pure z := by intro _; rfl) :
   PE X (.ListComp elt [⟨.Name x px, iter, [c], 0⟩] scope pos) (tLCIf wi tt te js) := by
 intro pins s σ H Q I h
 rw [eval_ListComp]
 exact lcIf_core (use := none) hc L hi he ht hs I h fun D C H4 s4 m hn _ I4 q => ⟨m, hn, fun h' sb => ⟨.ref D, H4, I4 h' sb, rfl, q⟩⟩
end
end L2
namespace L2
open PySem PySem.Spec PyProof.Rows L3
def RawD (h : Heap) (d : Addr) (es : Array DictEntry) (ep : Nat) : Prop := ∃ o, h.get? d = some o ∧ o.ExactDict ∧ o.data = .dict es ep
section
variable {prog : Program} {w : World} {A : Around} {E : Value → Shared → Prop} {s : Shared}
theorem RawD.typeIs {d : Addr} {es : Array DictEntry} {ep : Nat} (x : RawD s.heap d es ep) : s.TypeIs (.ref d) "dict" := by
 obtain ⟨o, ho, hc, _⟩ := x
 exact ⟨o, ho, hc.1⟩
theorem raw_iter {d : Addr} {es : Array DictEntry} {ep : Nat} {Q : Value → Shared → Prop} (hd : (d == sysModules) = false) (hm : RawD s.heap d es ep)
   (hQ : Q (.ref s.heap.objs.size) { s with heap := s.heap.push { cls := .type "dict_keyiterator", data := .fields #[.ref d, .int 0 0, .int es.size 0, .int ep 0] } }) :
   wpAny (model prog w) A (pyIter (.ref d)) Q E s := by
 have hT := hm.typeIs
 obtain ⟨o, ho, hc, hdat⟩ := hm
 refine wpAny_pyIter_slot hT F.slot_dict_iter (wpAny_call_entry F.slot_dict_iter hT F.entry_dict_iter ?_ (F.args_dict_iter_1 _))
 unfold Builtin.«dict.__iter__» Builtin.Dict.dictSlotNone
 refine wpAny_bind (wpAny_bind (wpAny_notOrdered_dict hT ?_))
 show wpAny _ _ (pure (Value.ref d)) _ _ s
 refine wpAny_pure ?_
 show wpAny _ _ (Builtin.Dict.showsAll d >>= _) _ _ s
 unfold Builtin.Dict.showsAll
 rw [if_neg (by rw [hd]; exact Bool.false_ne_true)]
 refine wpAny_bind (wpAny_pure (wpAny_bind (wpAny_dictEntries ho hdat (wpAny_bind (wpAny_dictEpoch ho hdat ?_)))))
 refine wpAny_bind (wpAny_newObj_type (wpAny_pure ⟨_, rfl, "dict_keyiterator", _, ⟨_, Heap.get?_push_size _ rfl, rfl⟩, F.slot_dict_keyiterator_next.lookup, ?_⟩))
 simpa [rawInt] using hQ
theorem raw_next {it d : Addr} {i ep : Nat} {es : Array DictEntry} {Q : Option Value → Shared → Prop} (hh : A.handled = none) (hit : s.heap.IsKeyIter it d i es.size ep) (hm : RawD s.heap d es ep)
   (h1 : ∀ (h : i < es.size) h', h'.IsKeyIter it d (i + 1) es.size ep → Heap.SameBut it s.heap h' → Q (some es[i].key) { s with heap := h' })
   (h2 : es.size ≤ i → ∀ h', Heap.ExtBut it s.heap h' → Q none { s with heap := h' }) : wpAny (model prog w) A (pyNext (.ref it)) Q E s := by
 obtain ⟨o, ho, hc, hd⟩ := id hit
 obtain ⟨od, hod, hcd, hdd⟩ := id hm
 unfold pyNext
 refine wpAny_bind (wpAny_attempt (wpAny_callSpecial?_slot (name := Str.ofString "__next__") hit.typeIs F.slot_dict_keyiterator_next
   (wpAny_call_entry F.slot_dict_keyiterator_next hit.typeIs F.entry_dict_keyiterator_next ?_ (F.args_dict_keyiterator_next_1 _))))
 refine wpAny_bind (wpAny_pure (wpAny_bind (wpAny_bind ?_)))
 first | refine wpAny_bind (wpAny_typeNameOfWhole_keyiter hit.typeIs (wpAny_pure ?_)) | refine wpAny_bind (wpAny_typeNameOf_keyiter hit.typeIs (wpAny_pure ?_))
 refine wpAny_bind (wpAny_fieldsOf ho hd ?_)
 have hown : Builtin.Dict_items.ownsTuple "dict_keyiterator" = false := by decide
 simp only [hown, Bool.false_eq_true, if_false]
 show wpAny _ _ (if (Value.ref d == Value.none) = true then _ else _) _ _ s
 rw [if_neg (show ¬ ((Value.ref d == Value.none) = true) from Bool.false_ne_true)]
 refine wpAny_bind (wpAny_pure (wpAny_bind (wpAny_dictEntries hod hdd ?_)))
 rw [if_neg (by simp)]
 refine wpAny_bind (wpAny_pure (wpAny_bind (wpAny_dictEpoch hod hdd ?_)))
 rw [if_neg (by simp)]
 refine wpAny_pure ?_
 rcases Nat.lt_or_ge i es.size with hlt | hge
 · simp only [show ¬ ((i : Int) < 0) from by omega, if_false, Int.toNat_natCast, Array.getElem?_eq_getElem hlt]
   refine wpAny_bind ?_
   first | refine wpAny_bind (wpAny_typeNameOfWhole_keyiter hit.typeIs (wpAny_pure ?_)) | refine wpAny_bind (wpAny_typeNameOf_keyiter hit.typeIs (wpAny_pure ?_))
   refine wpAny_bind (wpAny_isOneOf_keyiter hit.typeIs ?_)
   show wpAny _ _ (setField (.ref it) 1 (rawInt ((i : Int) + 1)) >>= _) _ _ s
   refine wpAny_bind (wpAny_setField ho hd (by simp) ?_)
   have hit' : (s.heap.update it (Obj.mapFields (·.setIfInBounds 1 (rawInt ((i : Int) + 1))))).IsKeyIter it d (i + 1) es.size ep :=
     ⟨_, Heap.get?_update_self _ ho (Obj.isFreed_of_fields (Obj.data_mapFields hd _)), (Obj.cls_mapFields ..).trans hc, by rw [Obj.data_mapFields hd]; simp [rawInt]⟩
   refine wpAny_bind (wpAny_holding ?_)
   refine wpAny_bind (wpAny_isOneOf_keyiter (s := { s with heap := s.heap.update it (Obj.mapFields (·.setIfInBounds 1 (rawInt ((i : Int) + 1)))) }) hit'.typeIs ?_)
   show wpAny _ _ (pure es[i].key) _ _ _
   exact wpAny_pure (wpAny_pure ⟨_, rfl, wpAny_pure (h1 hlt _ hit' (Heap.SameBut.update ..))⟩)
 · simp only [show ¬ ((i : Int) < 0) from by omega, if_false, Int.toNat_natCast, Array.getElem?_eq_none hge]
   refine wpAny_bind ?_
   first | refine wpAny_bind (wpAny_typeNameOfWhole_keyiter hit.typeIs (wpAny_pure ?_)) | refine wpAny_bind (wpAny_typeNameOf_keyiter hit.typeIs (wpAny_pure ?_))
   show wpAny _ _ (setField (.ref it) 0 .none >>= _) _ _ s
   refine wpAny_bind (wpAny_setField ho hd (by simp) ?_)
   show wpAny _ _ (newExc (.type "StopIteration") [] >>= _) _ _ _
   refine wpAny_bind ?_
   simp only [newExc, newTuple]
   refine wpAny_bind (wpAny_newObj_type ?_ (by size_fits))
   refine wpAny_bind (m := firstArgMember _ _) (wpAny_of_eq (a := Value.none) (by first | rfl | (simp only [firstArgMember]; rfl)) ?_)
   refine wpAny_newObj_type ?_ (by size_fits)
   simp only [raiseNew]
   refine wpAny_bind (wpAny_handled ?_)
   rw [show A.in1.handled = none from hh]
   refine wpAny_bind (wpAny_pure (wpAny_throw ?_))
   refine wpAny_bind (wpAny_isInstance (T := "StopIteration") (b := true) ⟨_, Heap.get?_push_size _ rfl, rfl⟩ isSubtype_stop ?_)
   exact wpAny_pure (h2 hge _ (((Heap.SameBut.update ..).extBut.push _).push _))
end
section
variable {X : Cx}
end
theorem bt_max : bootBuiltins "max" = some (.builtin "max") := by decide +kernel
end L2
namespace L2
open PySem PySem.Spec PyProof.Rows L3
section
variable {X : Cx} {pins : List (Addr × Obj)} {σ : St} {H : Hp} {s : Shared}
end
section
variable {X : Cx}
end
end L2
namespace L2
open PySem PySem.Spec PyProof.Rows L3
def DefM (K : PySem.W.Frag) (C : Addr) (m qual : Str) (st : Stmt) (dV : Value) : Prop := ∃ f fd, FunD K m qual st f fd dV ∧ Meth K C m f
def CalM (P : Program) (w : World) (K : PySem.W.Frag) (mg : Str → Option Value) (base : Heap) (CX : CXT) (cm : Bool) (k : Nat) (C : Addr) (m : Str) (ps : List Str) (ds : List V) (sp : Sp) : Prop :=
 ∃ f fd dvs, FnOk P w K mg base CX cm k f fd ps sp ∧ Meth K C m f ∧ Binds K fd ps [] ∧ Vals ds dvs ∧ Binds K fd ps dvs
def DefI (K : PySem.W.Frag) (C : Addr) (qual : Str) (st : Stmt) (dV : Value) : Prop := ∃ f fd, FunD K "__init__" qual st f fd dV ∧ Mk K C f
def CalI (P : Program) (w : World) (K : PySem.W.Frag) (mg : Str → Option Value) (base : Heap) (CX : CXT) (cm : Bool) (k : Nat) (C : Addr) (ps : List Str) (ds : List V) (sp : Sp) : Prop :=
 ∃ f fd dvs, FnOk P w K mg base CX cm k f fd ps sp ∧ Mk K C f ∧ Binds K fd ps [] ∧ Vals ds dvs ∧ Binds K fd ps dvs
theorem ix_seqC {X : Cx} {scope : Scope} {cl : List (Str × Addr)} {C : Addr} {s2 : Shared} {H2 : Hp} {fp : List Addr} {N' : List Str} {xe : Value → Shared → Prop} : IxR (X.inC scope cl C s2 H2 fp N' xe) (rIx X.K) := ix_seq (X := X.inC scope cl C s2 H2 fp N' xe)
end L2
namespace L2
open PySem PySem.Spec PyProof.Rows L3
section
variable {X : Cx}
theorem sl_str : SlR X (fun x lo hi H Q => ∃ z : Str, x = .str z ∧ z.length ≤ sizeLine ∧ Q (.str (Txt.slice z lo hi)) H) := by
 intro pins s σ H x v vl vu lo hi sl Q I rx hs pl pu h
 obtain ⟨z, rfl, hz, q⟩ := h
 obtain ⟨t, rfl⟩ := rx
 have fin : (Txt.slice z lo hi).length ≤ sizeLine ∧ ∀ (t' : Tok) (k : Nat), EP X pins σ Q (.str (Txt.slice z lo hi) t') { s with toks := k } :=
   ⟨Nat.le_trans (Txt.slice_le z lo hi) hz, fun t' k => ⟨.str _, H, I.tok k, ⟨t', rfl⟩, q⟩⟩
 cases pl with
 | none =>
   cases pu with
   | none => exact ⟨"str", _, F.slot_str_getitem.lookup, typeIs_str _ _ _, wpAny_getItem_str_slice (l := none) (u := none) (st := none) hs rfl (post_val_or_str fin)⟩
   | int i t1 => exact ⟨"str", _, F.slot_str_getitem.lookup, typeIs_str _ _ _, wpAny_getItem_str_slice (l := none) (u := some (i, t1)) (st := none) hs rfl (post_val_or_str fin)⟩
 | int j t2 =>
   cases pu with
   | none => exact ⟨"str", _, F.slot_str_getitem.lookup, typeIs_str _ _ _, wpAny_getItem_str_slice (l := some (j, t2)) (u := none) (st := none) hs rfl (post_val_or_str fin)⟩
   | int i t1 => exact ⟨"str", _, F.slot_str_getitem.lookup, typeIs_str _ _ _, wpAny_getItem_str_slice (l := some (j, t2)) (u := some (i, t1)) (st := none) hs rfl (post_val_or_str fin)⟩
end
open Builtin Builtin.Str in
theorem pre_ix (j n : Nat) (h : j ≤ n) : strSliceIndices none (some (j : Int)) 1 n = List.range j := by
 unfold strSliceIndices sliceRange
 simp only [show (1 : Int) > 0 by decide, if_true]
 rw [if_neg (show ¬ ((j : Int) < 0) by omega), show min (j : Int) (n : Int) = j by omega, show max (0 : Int) (j : Int) = j by omega]
 by_cases hj : (0 : Int) < j
 · rw [if_pos hj, show (((j : Int) - 0 + 1 - 1) / 1).toNat = j by omega]
   refine List.map_id'' ?_ _
   intro k
   omega
 · rw [if_neg hj, show j = 0 by omega]
   rfl
theorem pick_len (z : Str) : ∀ l : List Nat, (∀ i ∈ l, i < z.cps.size) → (l.filterMap (z.cps[·]?)).length = l.length
 | [], _ => rfl
 | i :: r, h => by
   have hi := h i List.mem_cons_self
   rw [List.filterMap_cons, Array.getElem?_eq_getElem hi]
   show (_ :: List.filterMap _ r).length = _
   rw [List.length_cons, List.length_cons, pick_len z r fun k hk => h k (List.mem_cons_of_mem _ hk)]
theorem slice_pre_len (z : Str) (j : Nat) (h : j ≤ z.length) : (Txt.slice z none (some (j : Int))).length = j := by
 unfold Txt.slice
 rw [pre_ix j z.length h, List.length_range]
 by_cases e : j = z.length
 · rw [if_pos (by simp [e])]
   exact e.symm
 · rw [if_neg (by simp [e])]
   show (List.filterMap _ (List.range j)).toArray.size = j
   rw [List.size_toArray, pick_len z _ fun i hi => Nat.lt_of_lt_of_le (List.mem_range.mp hi) h, List.length_range]
theorem str_len_app (a b : Str) : (a ++ b).length = a.length + b.length := by
 show (a.cps ++ b.cps).size = _
 rw [Array.size_append]
 rfl
theorem str_app_inj {a b p q : Str} (h : p ++ a ++ q = p ++ b ++ q) : a = b := by
 have e : (p.cps ++ a.cps ++ q.cps) = (p.cps ++ b.cps ++ q.cps) := congrArg Str.cps h
 have e2 := congrArg Array.toList e
 simp only [Array.toList_append] at e2
 have e3 := List.append_cancel_right e2
 have e4 := List.append_cancel_left e3
 cases a
 cases b
 simp only [Str.mk.injEq]
 exact Array.toList_inj.mp e4
end L2
namespace L2
open PySem PySem.Spec PyProof.Rows L3
end L2
namespace L2
open PySem PySem.Spec PyProof.Rows L3
section
variable {X : Cx}
theorem Inv.laidAll {pins : List (Addr × Obj)} {σ : St} {H H' : Hp} {s : Shared} {h' : Heap} {t' : Nat} (I : Inv X pins σ H s) (k : ∀ b u, s.heap.get? b = some u → h'.get? b = some u) (same : ∀ b o, H b = some o → H' b = some o)
   (new : ∀ b, b < s.heap.objs.size → H b = none → H' b = none) (ok : ∀ b o, H b = none → H' b = some o → ObjOk X.prog X.w H' h' b o) : Inv X pins σ H' { s with heap := h', toks := t' } := by
 refine I.un ⟨fun b u q _ _ _ => k b u q, fun b u q _ _ _ => ⟨u.slots, k b u q⟩, fun b u q n _ => new b (Heap.lt_size q) n, fun b u q _ => ⟨u, k b u q⟩, fun b xs q => same _ _ q, fun b o u q => same _ _ q, fun b ps q => ⟨#[], by rw [same _ _ q]; simp⟩⟩ fun b o e => ?_
 cases hb : H b with
 | none => exact ok b o hb e
 | some o1 =>
   have e2 := same b o1 hb
   rw [e] at e2
   cases e2
   exact (I.hok b _ hb).stay (fun c v _ q => k c v q) (fun c q => same _ _ q) fun c xs q => same _ _ q
def eqT (K : PySem.W.Frag) (H : Hp) (x y : V) : Prop := (x = y ∧ eqPl x = true) ∨ ∃ a b xs, x = .ref a ∧ y = .ref b ∧ SqT K H a xs ∧ SqT K H b xs ∧ ∀ z ∈ xs, eqPl z = true
theorem Inv.eqT {pins : List (Addr × Obj)} {σ : St} {H : Hp} {s : Shared} {x y : V} {v u : Value} {A : Around} (I : Inv X pins σ H s) (hu : A.units < cLine) (e : eqT X.K H x y) (rx : RelV x v) (ry : RelV y u) : SeqAt.EqAt A s v u true := by
 rcases e with ⟨rfl, hp⟩ | ⟨a, b, xs, rfl, rfl, ha, hb, hp⟩
 · exact eqAt_self hp rx ry
 · cases rx
   cases ry
   by_cases hab : a = b
   · subst hab
     exact SeqAt.EqAt.same _
   obtain ⟨its, r, pl, hz⟩ := I.tuple ha
   obtain ⟨its2, r2, pl2, hz2⟩ := I.tuple hb
   have l1 := r.length
   have l2 := r2.length
   have h := SeqAt.RcAt.tuples (A := A) (e := fun _ => true) (show s.heap.IsTuple a its.toArray from pl) (show s.heap.IsTuple b its2.toArray from pl2) hu (fun j h1 h2 => by
     simp only [List.size_toArray] at h1 h2
     obtain ⟨x, e, rx⟩ := vals_at r j h1
     obtain ⟨x2, e2, rx2⟩ := vals_at r2 j h2
     rw [e] at e2
     cases e2
     simp only [List.getElem_toArray]
     exact eqAt_self (hp x (List.mem_of_getElem? e)) rx rx2)
   have hb : ((List.range (min its.toArray.size its2.toArray.size)).all (fun _ => true) && its.toArray.size == its2.toArray.size) = true := by
     simp only [List.size_toArray]
     rw [← l1, ← l2]
     simp
   rw [hb] at h
   exact SeqAt.EqAt.of_refs hab h
def EqLs (K : PySem.W.Frag) (H : Hp) (xs ys : List V) : Prop := xs.length = ys.length ∧ ∀ (j : Nat) x y, xs[j]? = some x → ys[j]? = some y → eqT K H x y
theorem op_neD {cm : Bool} {k : Nat} (hr : Room cm k X.A) : OpR X (compareOp .NotEq) (fun x y H Q => ∃ a b xs ys, x = .ref a ∧ y = .ref b ∧ SqL X.K H a xs ∧ SqL X.K H b ys ∧ EqLs X.K H xs ys ∧ Q (.bl false) H) := by
 intro pins s σ H x y v u Q I rx ry h
 obtain ⟨a, b, xs, ys, rfl, rfl, ha, hb, ⟨hl, he⟩, q⟩ := h
 cases rx
 cases ry
 obtain ⟨its, r, pl, hz⟩ := I.list ha
 obtain ⟨its2, r2, pl2, hz2⟩ := I.list hb
 have l1 := r.length
 have l2 := r2.length
 have hu : X.A.units < cLine := by have := hr.un; omega
 have hu1 : X.A.in1.units < cLine := by have := hr.un; show X.A.units + 1 < cLine; omega
 refine SeqAt.RcNeAt.lists (e := fun _ => true) pl.isList pl2.isList (by simp only [List.size_toArray]; omega) hu (fun j h1 h2 => ?_) _ _ _ _ ?_
 · simp only [List.size_toArray] at h1 h2
   obtain ⟨x, e, rx⟩ := vals_at r j h1
   obtain ⟨x2, e2, rx2⟩ := vals_at r2 j h2
   simp only [List.getElem_toArray]
   exact I.eqT hu1 (he j x x2 e e2) rx rx2
 · rw [show ((List.range its.toArray.size).all fun _ => true) = true by simp]
   exact ⟨.bl false, H, I, rfl, q⟩
theorem EqLs.refl {K : PySem.W.Frag} {H : Hp} {xs : List V} (h : ∀ z ∈ xs, eqPl z = true) : EqLs K H xs xs := ⟨rfl, fun j x y e1 e2 => by
 rw [e1] at e2
 cases e2
 exact .inl ⟨rfl, h x (List.mem_of_getElem? e1)⟩⟩
theorem rel_key {P : Program} {w : World} {k : Key} {u : Value} (h : (mixKind P w).is k u = true) : RelV (kV k) u := by
 rcases keyIs_shape (show keyIs k u = true from h) with ⟨i, t, rfl, rfl⟩ | ⟨x, t, rfl, rfl⟩
 · exact ⟨t, rfl⟩
 · exact ⟨t, rfl⟩
def ivw (v d : Addr) : HO := .ext fun h => h.IsItemsView v d
def rItems : V → List V → Hp → VK → Prop := fun x vs H Q => ∃ (d : Addr) (kvs : List (Key × V)), x = .ref d ∧ vs = [] ∧ H d = some (.dK kvs) ∧ ∀ v, H v = none → Q (.ref v) (upd H v (ivw v d))
theorem mt_items : MtR X "dict.items" rItems := by
 intro pins s σ H x vs v us Q I rx rv h
 obtain ⟨d, kvs, rfl, rfl, hd, q⟩ := h
 cases rx
 cases rv
 obtain ⟨z, hsm, xs, rel, dd⟩ := dk_of I.hok hd
 refine call_meetsIn PySem.F.slot_dict_items dd.typeIs PySem.F.entry_dict_items (PySem.F.args_dict_items_1 _) (meets_dict_items (mixKind X.prog X.w) d hsm) ⟨⟨xs, dd⟩, ?_⟩
 refine ⟨.ref s.heap.objs.size, _, I.laid (a := s.heap.objs.size) (o := ivw s.heap.objs.size d) (t' := s.toks) (fun _ _ q => Heap.get?_push_of_some _ q) (Nat.le_refl _) ?_, rfl, q _ I.fresh⟩
 exact ⟨⟨_, Heap.get?_push_size _ rfl, rfl, rfl⟩, ⟨_, Heap.get?_push_size _ rfl⟩, fun h1 h2 ⟨o, ho, hc, hd⟩ k => ⟨o, k o ho, hc, hd⟩⟩
def hpPairs (H : Hp) (l : Addr) (as : List Addr) (kvs : List (Key × V)) : Hp := fun b => if b = l then some (.lst (as.map V.ref)) else match (as.zip kvs).find? (fun p => decide (p.1 = b)) with
 | some p => some (.tup [kV p.2.1, p.2.2])
 | none => H b
theorem find_zip : ∀ (as : List Addr) (kvs : List (Key × V)), as.Nodup → ∀ (j : Nat) a kv, as[j]? = some a → kvs[j]? = some kv → (as.zip kvs).find? (fun p => decide (p.1 = a)) = some (a, kv)
 | [], _, _, j, a, kv, h, _ => by simp at h
 | _ :: _, [], _, j, a, kv, _, h => by simp at h
 | b :: as, y :: kvs, nd, 0, a, kv, h1, h2 => by
   cases h1
   cases h2
   simp
 | b :: as, y :: kvs, nd, j + 1, a, kv, h1, h2 => by
   have nd' := List.nodup_cons.mp nd
   have h1' : as[j]? = some a := by simpa using h1
   have h2' : kvs[j]? = some kv := by simpa using h2
   have ne : ¬ b = a := fun z => nd'.1 (by rw [z]; exact List.mem_of_getElem? h1')
   rw [List.zip_cons_cons, List.find?_cons]
   simp only [ne, decide_false]
   exact find_zip as kvs nd'.2 j a kv h1' h2'
theorem find_zip_not {as : List Addr} {kvs : List (Key × V)} {b : Addr} (h : b ∉ as) : (as.zip kvs).find? (fun p => decide (p.1 = b)) = none := by
 rw [List.find?_eq_none]
 intro p hp
 have : p.1 ∈ as := (List.of_mem_zip hp).1
 simp only [decide_eq_true_eq]
 intro z
 exact h (z ▸ this)
def rListItems : List V → Hp → VK → Prop := fun xs H Q => ∃ (v d : Addr) (kvs : List (Key × V)), xs = [.ref v] ∧ H v = some (ivw v d) ∧ H d = some (.dK kvs) ∧
 ∀ (l : Addr) (as : List Addr) (H' : Hp), Same H H' → H l = none → H' l = some (.lst (as.map V.ref)) → as.length = kvs.length → (∀ (j : Nat) a kv, as[j]? = some a → kvs[j]? = some kv → H' a = some (.tup [kV kv.1, kv.2])) → Q (.ref l) H'
theorem call_list_items (hc : X.calm = true) : CallR X (.type "list") rListItems := by
 intro pins s σ H xs us Q I rv h
 obtain ⟨v, d, kvs, rfl, hv, hd, q⟩ := h
 obtain ⟨u, rfl, ru⟩ := rv.one
 cases ru
 obtain ⟨z, hsm, vs, rel, dd⟩ := dk_of I.hok hd
 obtain ⟨ep, da⟩ := dd.dictAt
 have hvw : s.heap.IsItemsView v d := (I.hok v _ hv).1
 have rl : kvs.length = vs.length := rel.length
 refine PySem.W.kdx_call (knd := mixKind X.prog X.w) (kvs := vs) (ep := ep) (I.ok.hd hc) hvw da (by omega) fun h' tk acc c as hk hS hl hG hacc => ?_
 have nd : as.Nodup := hG.rise.imp fun h => Nat.ne_of_lt h
 have above := hG.above
 have same : Same H (hpPairs H s.heap.objs.size as kvs) := fun b o e => by
   have hb : b < s.heap.objs.size := (I.hok b o e).lt
   unfold hpPairs
   rw [if_neg (Nat.ne_of_lt hb), find_zip_not (fun m => absurd (above b m) (Nat.not_lt.mpr (Nat.le_of_lt hb)))]
   exact e
 have hpair : ∀ (j : Nat) a kv, as[j]? = some a → kvs[j]? = some kv → hpPairs H s.heap.objs.size as kvs a = some (.tup [kV kv.1, kv.2]) := fun j a kv e1 e2 => by
   unfold hpPairs
   rw [if_neg (Nat.ne_of_gt (above a (List.mem_of_getElem? e1))), find_zip as kvs nd j a kv e1 e2]
 refine ⟨.ref s.heap.objs.size, hpPairs H s.heap.objs.size as kvs, I.laidAll hk same (fun b hb n => ?_) (fun b o n e => ?_), rfl, q _ as _ same I.fresh (by unfold hpPairs; rw [if_pos rfl]) (by omega) hpair⟩
 · unfold hpPairs
   rw [if_neg (Nat.ne_of_lt hb), find_zip_not (fun m => absurd (above b m) (Nat.not_lt.mpr (Nat.le_of_lt hb)))]
   exact n
 · by_cases hb : b = s.heap.objs.size
   · subst hb
     unfold hpPairs at e
     rw [if_pos rfl] at e
     cases e
     refine ⟨by rw [List.length_map]; omega, as.map Value.ref, c, ?_, ?_⟩
     · have all : ∀ l : List Addr, Vals (l.map V.ref) (l.map Value.ref) := fun l => by
         induction l with
         | nil => exact .nil
         | cons a l ih => exact .cons rfl ih
       exact all as
     · rw [hS, ← hacc]
   · by_cases hm : b ∈ as
     · obtain ⟨j, hj⟩ := List.mem_iff_getElem?.mp hm
       obtain ⟨key, k, x, e1, e2, e3⟩ := hG.pairs j b hj
       obtain ⟨kv, hkv, ek, ev⟩ : ∃ kv, kvs[j]? = some kv ∧ kv.1 = k ∧ RelV kv.2 x := by
         have all : ∀ {l : List (Key × V)} {m : List (Key × Value)}, KV l m → ∀ (j : Nat) p, m[j]? = some p → ∃ kv, l[j]? = some kv ∧ kv.1 = p.1 ∧ RelV kv.2 p.2 := by
           intro l m r
           unfold KV at r
           induction r with
           | nil => intro j p hp; simp at hp
           | @cons p q ps qs h t ih =>
             intro j p' hp
             cases j with
             | zero =>
               cases hp
               exact ⟨p, rfl, h.1, h.2⟩
             | succ j => exact ih j p' (by simpa using hp)
         exact all rel j (k, x) e1
       rw [hpair j b kv hj hkv] at e
       cases e
       refine ⟨by show 2 ≤ sizeLine; decide, [key, x], .cons ?_ (.cons ev .nil), ⟨_, e3, rfl, 0, rfl⟩⟩
       rw [ek]
       exact rel_key e2
     · unfold hpPairs at e
       rw [if_neg hb, find_zip_not hm, n] at e
       cases e
end
end L2
namespace L2
open PySem PySem.Spec PyProof.Rows L3
def tLCT (wi : TI) (g : TG) (te : TE) (n : Nat) (js : List Nat) : TE := fun σ H Q => wi σ H fun J H1 => ∃ W : Nat → Nat → List V → Hp → Prop, (∃ m, W 0 m [] H1) ∧ ∀ i m ys H, W i m ys H →
 (J.stop i H ∧ ∀ l, H l = none → Q (.ref l) (upd H l (.lst ys))) ∨ (J.go i H ∧ ys.length < sizeLine ∧ ∃ N : VK, (∀ y H2, N y H2 → ∃ m', m' < m ∧ W (i + 1) m' (ys ++ [y]) H2) ∧ ∀ x H', J.yld i H x H' → ∀ σ0 : St, σ0.length = n → g x (σ0 ++ js.map (fun j => σ.getD j none)) H' fun σ6 H6 => ∃ σ1 : St, σ1.length = n ∧ σ6 = σ1 ++ js.map (fun j => σ.getD j none) ∧ te σ6 H6 N)
section
variable {X : Cx}
structure LcOkT (X : Cx) (xs : List Str) (scope : Scope) (cl : List (Str × Addr)) (js : List Nat) : Prop where
 clos : closureFor scope X.env = pure cl
 sub : ∀ y c, cl.lookup y = some c → X.env.cells.lookup y = some c
 kind : scope.kind = .function
 cell : ∀ y ∈ scope.names, y.2 ≠ .cell
 names : ∀ y ∈ scope.names, y.2 = .local → scope.names.lookup y.1 = some .local
 loc : ∀ x ∈ xs, scope.names.lookup x = some .local
 has : ∀ y, (((relabel scope X.env).names.lookup y = some .cell) ∨ ((relabel scope X.env).names.lookup y = some .free)) → ∃ c, cl.lookup y = some c
 nd : (xs ++ js.map (fun j => X.N.getD j "")).Nodup
 fr : ∀ j ∈ js, ∃ y, X.N[j]? = some y ∧ X.env.kindOf y = some .cell ∧ (relabel scope X.env).names.lookup y = some .cell ∧ ∃ c, cl.lookup y = some c
theorem Inv.inCT {xs : List Str} {scope : Scope} {cl : List (Str × Addr)} {js : List Nat} {pins : List (Addr × Obj)} {σ : St} {H2 : Hp} {s2 : Shared} {fp : List Addr} {C D : Addr} {h1 : Heap} {xe : Value → Shared → Prop} {oD : Obj} {m0 : Str → Option Value}
   (L : LcOkT X xs scope cl js) (I2 : Inv X pins σ H2 s2) (f2 : ∀ b ∈ fp, FpOk X pins H2 b) (fo : ∀ b ∈ fp, ∃ o, s2.heap.get? b = some o) (hC : s2.heap.objs.size ≤ C) (hD : s2.heap.objs.size ≤ D) (hDC : D ≠ C)
   (old : ∀ b o, s2.heap.get? b = some o → h1.get? b = some o) (hns : h1.Ns C m0) (hoD : h1.get? D = some oD) (hdD : ∀ v, oD.data ≠ .cell v) {t' : Nat} :
   Inv (X.inC scope cl C s2 H2 fp (xs ++ js.map (fun j => X.N.getD j "")) xe) [(D, oD)] (xs.map (fun _ => none) ++ js.map (fun j => σ.getD j none)) H2 { s2 with heap := h1, toks := t' } where
 ok := {
   mod := I2.ok.mod
   kind := L.kind
   glob := I2.ok.glob
   blt := I2.ok.blt
   above := hC
   inj := fun a b c e1 e2 => I2.ok.inj a b c (L.sub a c e1) (L.sub b c e2)
   has := fun y hy => L.has y hy
   cab := fun _ _ z => nomatch z
   hd := I2.ok.hd
   frames := I2.ok.frames
   stk := .inl rfl
   exf := fun b hb => by
     obtain ⟨o, e⟩ := fo b hb
     refine ⟨Nat.ne_of_lt (Nat.lt_of_lt_of_le (Heap.lt_size e) hC), fun y c e' => ?_⟩
     exact (f2 b hb).2.2.2.2.1 y c (L.sub y c e')
   bs := fun b o e => I2.bs b o e
   bsz := Nat.le_trans I2.ok.bsz I2.sz
   noex := fun b o e hb => by
     rcases (f2 b hb).2.2.2.1 with z | z
     · exact I2.ok.noex b o e z
     · exact absurd (Nat.lt_of_lt_of_le (Heap.lt_size e) (Nat.le_trans I2.ok.bsz z)) (Nat.lt_irrefl _)
   exfs := fun b hb z => by
     rcases List.mem_cons.mp (I2.stkSub b z) with e | e
     · exact (f2 b hb).2.1 e
     · exact (f2 b hb).2.2.1 e
   funs := I2.stack
   frf := I2.stkFree }
 os := rfl
 bare := I2.bare
 base := Un.kept old
 loc := by
   refine ⟨m0, hns, fun i y v e1 e2 e3 => ?_⟩
   have hik : ¬ i < xs.length := fun z => by
     have e2' : (xs.map (fun _ => (none : Option V)) ++ js.map (fun j => σ.getD j none))[i]? = some (some v) := e2
     rw [List.getElem?_append_left (by rw [List.length_map]; exact z), List.getElem?_map] at e2'
     rw [List.getElem?_eq_getElem z] at e2'
     cases e2'
   have hsplit : ∃ k, i = xs.length + k := ⟨i - xs.length, by omega⟩
   obtain ⟨k, rfl⟩ := hsplit
   · have e1' : (js.map (fun j => X.N.getD j ""))[k]? = some y := by
       have e1' : (xs ++ js.map (fun j => X.N.getD j ""))[xs.length + k]? = some y := e1
       rw [List.getElem?_append_right (by omega)] at e1'
       simpa using e1'
     have e2' : (js.map (fun j => σ.getD j none))[k]? = some (some v) := by
       have e2' : (xs.map (fun _ => (none : Option V)) ++ js.map (fun j => σ.getD j none))[xs.length + k]? = some (some v) := e2
       rw [List.getElem?_append_right (by rw [List.length_map]; omega)] at e2'
       simpa using e2'
     rw [List.getElem?_map] at e1' e2'
     cases hj : js[k]? with
     | none => rw [hj] at e1'; cases e1'
     | some j =>
       rw [hj] at e1' e2'
       obtain ⟨y', n1, n2, n3, c, n4⟩ := L.fr j (List.mem_of_getElem? hj)
       have e1'' : X.N.getD j "" = y := Option.some.inj e1'
       have e2'' : σ.getD j none = some v := Option.some.inj e2'
       have : y' = y := by
         rw [List.getD, n1] at e1''
         exact e1''
       subst this
       have hσ : σ[j]? = some (some v) := by
         rw [List.getD] at e2''
         cases q : σ[j]? with
         | none => rw [q] at e2''; cases e2''
         | some z => rw [q] at e2''; exact congrArg some e2''
       obtain ⟨m, hn, hl⟩ := I2.loc
       obtain ⟨u, r, l⟩ := hl j y' v n1 hσ (.inr (.inl n2))
       refine ⟨u, r, ?_⟩
       rcases l with ⟨k1, _⟩ | ⟨_, c', k2, k3⟩
       · rw [n2] at k1; cases k1
       · have : c' = c := by
           have := L.sub _ _ n4
           rw [k2] at this
           exact Option.some.inj this
         subst this
         obtain ⟨o, ho, hd⟩ := k3
         exact .inr ⟨.inl n3, c', n4, o, old _ _ ho, hd⟩
 cell := fun y c e => by
   obtain ⟨v, o, ho, hd⟩ := I2.cell y c (L.sub y c e)
   exact ⟨v, o, old _ _ ho, hd⟩
 free := I2.hok.fresh hC
 freeC := fun y c e => I2.freeC y c (L.sub y c e)
 pin := fun p hp => by
   have e : p = (D, oD) := by simpa [Cx.inC] using hp
   subst e
   refine ⟨hoD, I2.hok.fresh hD, hDC, fun z => ?_, hdD⟩
   rcases List.mem_cons.mp (I2.stkSub D z) with e | e
   · exact absurd I2.lt (by rw [← e]; exact Nat.not_lt.mpr hD)
   · exact I2.nofs hD e
 hok := I2.hok.kept old
 len := by simp [Cx.inC]
theorem lcT_core {elt iter tg : Expr} {g : TG} {xs : List Str} {pos cpos : Pos} {scope : Scope} {cl : List (Str × Addr)} {wi : TI} {te : TE} {js : List Nat} {use : Option (Value → Sem Unit)} {Qc : Value → Shared → Prop} {pins : List (Addr × Obj)} {s : Shared} {σ : St} {H : Hp} {Q : VK}
   (hc : X.calm = true) (L : LcOkT X xs scope cl js) (hi : PI X tg iter wi) (hg : ∀ C s2 H2 fp xe, PG (X.inC scope cl C s2 H2 fp (xs ++ js.map (fun j => X.N.getD j "")) xe) tg g)
   (he : ∀ C s2 H2 fp xe, PE (X.inC scope cl C s2 H2 fp (xs ++ js.map (fun j => X.N.getD j "")) xe) elt te)
   (hs : ∀ z, foldedSetIterable iter X.env z = pure z) (I : Inv X pins σ H s) (h : tLCT wi g te xs.length js σ H Q)
   (fin : ∀ (D C : Addr) (H4 : Hp) (s4 : Shared) (m : Str → Option Value), s4.heap.Ns C m → FpOk X pins H4 C → (∀ h', Heap.SameBut C s4.heap h' → Inv X pins σ H4 { s4 with heap := h' }) → Q (.ref D) H4 → compPost (model X.prog X.w) X.A X.xe use Qc (.ref D) C (.ok .next) s4) :
   wpAny (model X.prog X.w) X.A (comprehension (.ListComp elt [⟨tg, iter, [], 0⟩] scope pos) scope X.env cpos (newList []) false (eval iter X.env) use) Qc X.xe s := by
 refine wpAny_comprehension_free (cl := cl) (use := use) rfl hs L.clos L.kind L.names ?_
 refine thn (hi pins s σ H _ I h) fun v s1 h1 => thn h1 fun itv s2 h2 => ?_
 obtain ⟨it, fp, tn, J, H2, e, I2, T, st2, f2, W, ⟨k0, w0⟩, turn⟩ := h2
 subst e
 refine wpAny_newObj_type (wpAny_newFunctionEnv L.cell (by intro y hy; simp at hy) (fun h₁ hns₁ hsb₁ => ?_) L.kind)
 dsimp only at hns₁ hsb₁ ⊢
 generalize hH2 : s2.heap.push { cls := .type "list", dict := none, data := .seq ([] : List Value).toArray } = Hp2 at hns₁ hsb₁ ⊢
 have hC : Hp2.objs.size = s2.heap.objs.size + 1 := by rw [← hH2, Heap.size_push]
 generalize hD0 : s2.heap.objs.size = D at hC ⊢
 generalize hC0 : Hp2.objs.size = C at hC hns₁ hsb₁ ⊢
 have hDC : D ≠ C := by omega
 have below : ∀ b, b < D → b ≠ C := fun b hb => by omega
 have old : ∀ b o, s2.heap.get? b = some o → h₁.get? b = some o := fun b o e =>
   hsb₁.extBut b o (below b (by rw [← hD0]; exact Heap.lt_size e)) (Heap.get?_push_of_some _ (hH2 ▸ Heap.get?_push_of_some _ e))
 have hacc : h₁.get? D = some { cls := .type "list", data := .seq ([] : List Value).toArray 0 } := by
   subst hD0
   exact hsb₁.extBut _ _ hDC (Heap.get?_push_of_some _ (hH2 ▸ Heap.get?_push_size _ rfl))
 have fo : ∀ b ∈ fp, ∃ o, s2.heap.get? b = some o := fun b hb => let ⟨o, e, _⟩ := T.obj _ _ st2 b hb; ⟨o, e⟩
 have flt : ∀ b ∈ fp, b < D := fun b hb => let ⟨o, e⟩ := fo b hb; by rw [← hD0]; exact Heap.lt_size e
 have st1 : tn 0 h₁ := T.keep _ _ _ st2 fun b hb o e => old b o e
 let R := compPost (model X.prog X.w) X.A X.xe use Qc (.ref D) C
 let xe := notedBy (model X.prog X.w) X.A (compEnvC scope cl C X.env) fun e s' => R (.error e) s'
 let X' := X.inC scope cl C s2 H2 fp (xs ++ js.map (fun j => X.N.getD j "")) xe
 have I0 : ∀ {t' : Nat}, Inv X' [(D, _)] (xs.map (fun _ => none) ++ js.map (fun j => σ.getD j none)) H2 { s2 with heap := h₁, toks := t' } := fun {t'} =>
   Inv.inCT L I2 f2 fo (by omega) (by omega) hDC old hns₁ hacc (fun v z => by cases z)
 have fpk : ∀ {pD : List (Addr × Obj)} {H' : Hp}, (∀ p ∈ pD, p.1 = D) → (∀ b ∈ fp, H' b = none) → ∀ b ∈ fp, FpOk X' pD H' b := fun {pD H'} hp hn b hb => by
   refine ⟨hn b hb, below b (flt b hb), fun z => ?_, .inl hb, fun y c e => (f2 b hb).2.2.2.2.1 y c (L.sub y c e), fun p hp' z => ?_⟩
   · rcases List.mem_cons.mp (I2.stkSub b z) with e | e
     · exact (f2 b hb).2.1 e
     · exact (f2 b hb).2.2.1 e
   · have q := hp p (by simpa [X', Cx.inC] using hp')
     have := flt b hb
     rw [← z, q] at this
     exact Nat.lt_irrefl _ this
 have loop : ∀ s3 : Shared, (∃ k i ys H' its n, ∃ σ0 : St, σ0.length = xs.length ∧ Inv X' [(D, { cls := .type "list", data := .seq (its : List Value).toArray n })] (σ0 ++ js.map (fun j => σ.getD j none)) H' s3 ∧ tn i s3.heap ∧ (∀ b ∈ fp, H' b = none) ∧ W i k ys H' ∧ Vals ys its ∧ ys.length ≤ sizeLine) →
     codeAny (model X.prog X.w) X.A (.compLoop (.ListComp elt [⟨tg, iter, [], 0⟩] scope pos) 0 (.ref it) (.ref D) (compEnvC scope cl C X.env)) R s3 := by
   rintro s3 ⟨k, hk⟩
   refine codeAny_loop rfl (fun k s3 => ∃ i ys H' its n, ∃ σ0 : St, σ0.length = xs.length ∧ Inv X' [(D, { cls := .type "list", data := .seq (its : List Value).toArray n })] (σ0 ++ js.map (fun j => σ.getD j none)) H' s3 ∧ tn i s3.heap ∧ (∀ b ∈ fp, H' b = none) ∧ W i k ys H' ∧ Vals ys its ∧ ys.length ≤ sizeLine) (fun k s3 hI => ?_) k hk
   obtain ⟨i, ys, H3, its, n, σ0, hσ0, I3, st3, fr3, w3, vy, hz⟩ := hI
   show wpAny _ _ ((compTurn (.ListComp elt [⟨tg, iter, [], 0⟩] scope pos) 0 (.ref it) (.ref D) (compEnvC scope cl C X.env)).onRaise (fun x => do noteFrame x (compEnvC scope cl C X.env); theTreesLotGoes x)) _ _ s3
   refine wpAny_noted ?_
   rw [compTurn_list1]
   have hpD : ∀ {o : Obj}, ∀ p ∈ [(D, o)], p.1 = D := fun p hp => by rw [List.mem_singleton.mp hp]
   refine wpAny_bind (wpAny_standAt (wpAny_bind ?_))
   rcases turn i k ys H3 w3 with ⟨stop, qn⟩ | ⟨go, hlen, N, hN, step⟩
   · refine thn (T.done X' rfl rfl rfl hc i _ s3 _ H3 xe I3 (fpk hpD fr3) st3 stop) fun r s4 ⟨hr, I4⟩ => ?_
     subst hr
     refine wpAny_pure ?_
     obtain ⟨m, hn, _⟩ := I4.loc
     obtain ⟨eD, nD, _⟩ := I4.pin (D, _) (List.mem_append_right _ (List.mem_singleton.mpr rfl))
     have fC : FpOk X pins (upd H3 D (.lst ys)) C := I2.fpOk (by omega) (by
       rw [upd_ne (Ne.symm hDC)]
       exact I4.free)
     refine fin D C (upd H3 D (.lst ys)) s4 m hn fC (fun h' sb => ?_) (qn D nD)
     obtain ⟨hh, g, d, t, os'⟩ := s4
     obtain rfl : os' = s2.os := I4.os
     have kp : ∀ b o, b ≠ C → hh.get? b = some o → h'.get? b = some o := fun b o hb e => (sb.2 b hb).trans e
     have lt2 : ∀ b o, s2.heap.get? b = some o → b ≠ C ∧ b ≠ D := fun b o e => by
       have q : b < D := by rw [← hD0]; exact Heap.lt_size e
       exact ⟨below b q, Nat.ne_of_lt q⟩
     have B : Un (frs X.stack) fp H2 H3 s2.heap hh := I4.base
     have hDn : H3 D = none := nD
     have I5 : Inv X pins σ (upd H3 D (.lst ys)) { s2 with heap := h', gens := g, drawn := d, toks := t } := by
       refine I2.call (h' := h') (g' := g) (d' := d) (t' := t) (ch := fp) ⟨?_, ?_, ?_, ?_, ?_, ?_, ?_⟩ ?_ I4.bare ?_
       · exact fun b o e n hb hx => kp b o (lt2 b o e).1 (B.keep b o e n hb hx)
       · intro b o e n hb hx
         obtain ⟨sl, q⟩ := B.slot b o e n hb hx
         exact ⟨sl, kp b _ (lt2 b o e).1 q⟩
       · intro b o e n hx
         rw [upd_ne (lt2 b o e).2]
         exact B.free b o e n hx
       · intro b o e hx
         obtain ⟨o', q⟩ := B.there b o e hx
         exact ⟨o', kp b o' (lt2 b o e).1 q⟩
       · intro b xs e
         have q := B.tups b xs e
         rw [upd_ne (ne_of_none q hDn)]
         exact q
       · intro b o u e
         have q := B.frzs b o u e
         rw [upd_ne (ne_of_none q hDn)]
         exact q
       · intro b ps e
         obtain ⟨more, q⟩ := B.tbls b ps e
         exact ⟨more, by rw [upd_ne (ne_of_none q hDn)]; exact q⟩
       · intro b u e
         by_cases hb : b = D
         · subst hb
           rw [upd_same] at e
           cases e
           exact ⟨hz, its, n, vy, kp _ _ hDC eD⟩
         · rw [upd_ne hb] at e
           have nC : ∀ c o, H3 c = some o → c ≠ C := fun c o q => ne_of_none q I4.free
           refine (I4.hok b u e).stay (fun c v hc' q => kp c v ?_ q) (fun c q => by rw [upd_ne (ne_of_none q hDn)]; exact q) fun c xs q => by rw [upd_ne (ne_of_none q hDn)]; exact q
           rcases hc' with z | z
           · rw [z]; exact nC b u e
           · exact nC c _ z
       · intro b hb
         obtain ⟨_, f1, _, f3, f4, f5⟩ := f2 b hb
         exact ⟨f3, f1, f4, f5⟩
     exact I5
   · refine thn (T.item X' rfl rfl rfl hc i _ s3 _ H3 xe I3 (fpk hpD fr3) st3 go) fun r s4 ⟨u, hr, h4⟩ => ?_
     subst hr
     refine wpAny_bind (thn h4 fun _ s5 ⟨xv, H5, I5, r5, y5, st5, fr5⟩ => ?_)
     have I5' := I5.pinned (fpk hpD fr5) (T.obj _ _ st5)
     refine wpAny_bind (thn (hg C s2 H2 fp xe _ s5 _ H5 xv u _ I5' r5 (step xv _ y5 σ0 hσ0)) fun _ s6 ⟨σ6, H6, I6, σ1, hσ1, e6, st6⟩ => ?_)
     subst e6
     refine wpAny_bind (wpAny_bind (thn (he C s2 H2 fp xe _ s6 _ _ _ I6 st6) fun y s7 ⟨yv, H7, I7, ry, n7⟩ => ?_))
     obtain ⟨m', hm, w7⟩ := hN yv H7 n7
     have I7' := I7.unpinned
     obtain ⟨eD, nD, neC, nfs, _⟩ := I7'.pin (D, _) (List.mem_append_right _ (List.mem_singleton.mpr rfl))
     have eD' : s7.heap.get? D = some { cls := .type "list", data := .seq its.toArray n } := eD
     have lv := vy.length
     refine wpAny_bind (call_meets F.slot_list_append ⟨_, eD', rfl⟩ F.entry_list_append (F.args_list_append_2 _ _) (PySem.list_append D its.toArray n y (by rw [List.size_toArray]; omega)) ⟨eD', ?_⟩)
     refine wpAny_pure (wpAny_pure ⟨rfl, m', hm, i + 1, ys ++ [yv], H7, its ++ [y], ?_⟩)
     have q := PySem.IsL.update eD' (fun a : Array Value => a.push y)
     have I8 : Inv X' [] (σ1 ++ js.map (fun j => σ.getD j none)) H7 { s7 with heap := s7.heap.update D (Obj.mapSeq (fun a : Array Value => a.push y)) } :=
       (I7'.pins_of (pins' := []) (fun p hp => nomatch hp)).turned (t' := s7.toks) (it := D) (fun b o hb e => (Heap.get?_update_other s7.heap _ (Ne.symm hb)).trans e) nD neC (.inr (by show s2.heap.objs.size ≤ D; omega))
         (fun z c e w => by
           obtain ⟨v', o', ho', _⟩ := I2.cell z c (L.sub z c e)
           have := Heap.lt_size ho'
           rw [w, hD0] at this
           exact Nat.lt_irrefl _ this) (fun p hp => nomatch hp)
     have pinf : ∀ b ∈ fp, ∀ o, s5.heap.get? b = some o → s7.heap.get? b = some o ∧ H7 b = none := fun b hb o e => by
       have z := I7.pin (b, o) (List.mem_append_right _ (List.mem_append_right _ (mem_pinsAt hb e)))
       exact ⟨z.1, z.2.1⟩
     obtain ⟨n', q'⟩ : ∃ n', (s7.heap.update D (Obj.mapSeq (fun a : Array Value => a.push y))).get? D = some { cls := .type "list", data := .seq (its ++ [y]).toArray n' } := by
       rw [show (its ++ [y]).toArray = its.toArray.push y by simp]
       exact ⟨_, q⟩
     refine ⟨n', σ1, hσ1, I8.pins_of fun p hp => ?_, ?_, fun b hb => ?_, w7, vy.append (.cons ry .nil), by rw [List.length_append, List.length_singleton]; omega⟩
     · rw [List.mem_singleton.mp hp]
       exact ⟨q', nD, neC, nfs, fun v z => by cases z⟩
     · refine T.keep _ _ _ st5 fun b hb o e => ?_
       have hb' : D ≠ b := fun z => by
         have := flt b hb
         rw [← z] at this
         exact Nat.lt_irrefl _ this
       exact (Heap.get?_update_other s7.heap _ hb').trans (pinf b hb o e).1
     · obtain ⟨o, e, _⟩ := T.obj _ _ st5 b hb
       exact (pinf b hb o e).2
 have start : ∀ {t' : Nat}, ∃ k i ys H' its n, ∃ σ0 : St, σ0.length = xs.length ∧ Inv X' [(D, { cls := .type "list", data := .seq (its : List Value).toArray n })] (σ0 ++ js.map (fun j => σ.getD j none)) H' { s2 with heap := h₁, toks := t' } ∧ tn i h₁ ∧ (∀ b ∈ fp, H' b = none) ∧ W i k ys H' ∧ Vals ys its ∧ ys.length ≤ sizeLine := fun {t'} =>
   ⟨k0, 0, [], H2, [], 0, xs.map (fun _ => none), List.length_map .., I0, st1, fun b hb => (f2 b hb).1, w0, .nil, Nat.zero_le _⟩
 exact codeAny_compStart_list (loop _ start) (T.self X.A 0 _ _ _ st1 (loop _ start))
theorem pe_lcT {elt iter tg : Expr} {g : TG} {xs : List Str} {pos : Pos} {scope : Scope} {cl : List (Str × Addr)} {wi : TI} {te : TE} (js : List Nat) (hc : X.calm = true) (L : LcOkT X xs scope cl js) (hi : PI X tg iter wi)
   (hg : ∀ C s2 H2 fp xe, PG (X.inC scope cl C s2 H2 fp (xs ++ js.map (fun j => X.N.getD j "")) xe) tg g)
   (he : ∀ C s2 H2 fp xe, PE (X.inC scope cl C s2 H2 fp (xs ++ js.map (fun j => X.N.getD j "")) xe) elt te)
   (hs : ∀ z, foldedSetIterable iter X.env z = pure z := by intro _; rfl) :
   PE X (.ListComp elt [⟨tg, iter, [], 0⟩] scope pos) (tLCT wi g te xs.length js) := by
 intro pins s σ H Q I h
 rw [eval_ListComp]
 exact lcT_core (use := none) hc L hi hg he hs I h fun D C H4 s4 m hn _ I4 q => ⟨m, hn, fun h' sb => ⟨.ref D, H4, I4 h' sb, rfl, q⟩⟩
theorem LcOkT.plain {X : Cx} {xs : List Str} {scope : Scope} (hfree : ∀ y ∈ scope.names, y.2 ≠ .free) (hcell : ∀ y ∈ scope.names, y.2 ≠ .cell) (hkind : scope.kind = .function) (hnames : ∀ y ∈ scope.names, y.2 = .local → scope.names.lookup y.1 = some .local)
   (hloc : ∀ x ∈ xs, scope.names.lookup x = some .local) (hnd : xs.Nodup) : LcOkT X xs scope [] [] where
 clos := closureFor_none hfree
 sub := fun _ _ e => nomatch e
 kind := hkind
 cell := hcell
 names := hnames
 loc := hloc
 has := fun y h => by
   rcases h with h | h
   · exact (lookup_relabel_not hfree hcell h).elim
   · exact (lookup_relabel_not hfree hfree h).elim
 nd := by simpa using hnd
 fr := fun _ h => nomatch h
end
end L2
namespace L2
open PySem PySem.Spec PyProof.Rows PySem.W PySem.Calls L3
theorem bits_ns : ∀ {ns : List Int}, WData.weightAll (ns.map WData.int) ≤ 2 ^ 20 → ∀ w ∈ ns, Builtin.Int.intBits w ≤ 2 ^ 20
 | [], _, w, h => nomatch h
 | n :: ns, h, w, hw => by
   have h' : WData.weight (.int n) + 1 + WData.weightAll (ns.map WData.int) ≤ 2 ^ 20 := h
   rcases List.mem_cons.mp hw with rfl | m
   · have e : WData.weight (.int w) = if w == 0 then 0 else w.natAbs.log2 + 1 := rfl
     rw [e] at h'
     unfold Builtin.Int.intBits
     by_cases c : w = 0
     · subst c
       simp
     · simp [c] at h' ⊢
       omega
   · exact bits_ns (by omega) w m
theorem attach_callB {l : OpenLaw} {n : Nat} {q : Program} {loose : List Str} {XP : (Str → Option Value) → Heap → Prop} {YP : World → Heap → Prop} {d : DefRec}
   (hn : l.most = some n) (hdf : d.params.defaults = [])
   (call : ∀ (w : World) (s₀ s₁ : Shared) (mg mb : Str → Option Value) (fa : Addr) (o : Obj) (pm cd doc : Value) (a : Addr) (vs : List Value) (ns : List Int),
     Ground q loose [] XP w s₀ mg mb s₁.heap → YP w s₁.heap →
     s₁.heap.get? fa = some o → o.data = .func (docDef d.name d.params d.body d.scope pm cd doc) → s₁.heap.CodeRec cd d.name → mg d.name = some (.ref fa) →
     s₁.heap.get? a = some { cls := .type "list", data := .seq vs.toArray } → IntsAre vs ns → ns.length ≤ n → (∀ w ∈ ns, Builtin.Int.intBits w ≤ 2 ^ 20) → s₁.gens = #[] →
     codeAny (model l.prog w) callerA (.call (.ref fa) ⟨[.ref a], []⟩) (fun r s' => r = .ok (.ret (.bool true)) ∧ OldK s₁.heap s'.heap ∧ s'.os = s₁.os ∧ AllBare s'.gens) s₁) :
   WalkO q loose XP YP l.row.toRowW d [] (fun f vs => PySem.call f vs) := by
 intro w s₀ s₁ mg mb G Y fa o pm cd doc dV kV ho hd hcd hD hmg hg args vals as hpre hlay hrd hwl hlo
 obtain rfl : dV = .none := Dflts.none hD hdf
 obtain rfl : kV = .none := Dflts.noKw hD
 obtain ⟨a, vs, ns, rfl, rfl, hobj, hints, hlen⟩ := Att.script_of hn hpre hwl
 have hb : ∀ w ∈ ns, Builtin.Int.intBits w ≤ 2 ^ 20 := by
   have h1 : WData.layable (.list (ns.map WData.int)) = true := by
     have := hlay
     unfold WData.layableAll at this
     simpa using this
   unfold WData.layable at h1
   rw [Bool.and_eq_true, decide_eq_true_eq] at h1
   exact bits_ns h1.2
 refine enter_call (codeAny_mono (call w s₀ s₁ mg mb fa o pm cd doc a vs ns G Y ho (fd_plain hd) hcd hmg hobj hints hlen hb hg) fun r s' hq => ?_)
 obtain ⟨rfl, h2, h3, h4⟩ := hq
 exact ⟨.inl ⟨.bool true, .bool true, [], rfl, fun _ => rfl, .bool true, Att.post_true l _, fun _ => ⟨List.Pairwise.nil, fun _ hm => (nomatch hm)⟩⟩, h2, h3, h4⟩
theorem walk_ofB {l : PySem.W.OpenLaw} {n k : Nat} {q : Program} {loose : List Str} {XP : (Str → Option Value) → Heap → Prop} {YP : World → Heap → Prop} {d : DefRec} {K : Params → PySem.W.Frag} {CX : World → CXT} {sp : World → Sp} {x : Str}
   (hn : l.most = some n) (hn2 : n ≤ sizeLine) (hdf : d.params.defaults = []) (hr : Room true k callerA)
   (hY : ∀ (w : World) (h : Heap), YP w h → (K w.params).In h)
   (F : ∀ (w : World) (mg : Str → Option Value) (fa : Addr) (h : Heap), (K w.params).In h → h.Ns mainGlobals mg → mg d.name = some (.ref fa) →
     ∃ fd : FuncData, (∀ (s : Shared) (u : Value), BindsTo s fd ⟨[u], []⟩ [(x, u)]) ∧
       ∀ base : Heap, (K w.params).In base → base.Ns mainGlobals mg → FnOk l.prog w (K w.params) mg base (CX w) true k fa fd [x] (sp w))
   (hsp : ∀ (w : World) (H : Hp) (a : Addr) (ns : List Int), ns.length ≤ n → (∀ w ∈ ns, Builtin.Int.intBits w ≤ 2 ^ 20) → Only H → SqL (K w.params) H a (ns.map V.int) → sp w [.ref a] H (fun v _ => v = .bl true) fun _ _ _ => False)
   (hCX : ∀ (w : World) (H : Hp) (s : Shared) (e : Value) (s' : Shared), CX w [] H s (fun _ _ _ => False) e s' → False) :
   PySem.W.WalkO q loose XP YP l.row.toRowW d [] (fun f vs => PySem.call f vs) := by
 refine attach_callB hn hdf fun w s₀ s₁ mg mb fa o pm cd doc a vs ns G Y ho hd hcd hmg hobj hints hlen hb2 hg => ?_
 have KX := hY w _ Y
 obtain ⟨fd, hb, hF⟩ := F w mg fa _ KX G.T.g hmg
 exact law_call KX G.T.g G.T.b G.T.builtins G.T.nolimit hg hobj hints (Nat.le_trans hlen hn2) hr hF hb (fun H hO hS => hsp w H a ns hlen hb2 hO hS) fun H e s' => hCX w H s₁ e s'
end L2
namespace L2
open PySem PySem.Spec PyProof.Rows L3
theorem lc_listIf {K : PySem.W.Frag} {a : Addr} {xs : List V} {T : V → Hp → VK → Prop} {B : V → Hp → (Bool → Hp → Prop) → Prop} {R : Addr → Hp → List V → Prop} {H : Hp} (Pv : Nat → List V → Hp → Prop) (h0 : Pv 0 [] H) (hn : xs.length ≤ sizeLine) (hl : ∀ i ys H, i ≤ xs.length → Pv i ys H → SqL K H a xs ∧ ys.length ≤ i)
   (hs : ∀ i x ys H, xs[i]? = some x → Pv i ys H → B x H fun b H2 => if b = true then T x H2 (fun y H3 => Pv (i + 1) (ys ++ [y]) H3) else Pv (i + 1) ys H2) (hd : ∀ ys H, Pv xs.length ys H → ∀ l, H l = none → R l H ys) :
   ∃ W : Nat → Nat → List V → Hp → Prop, (∃ m, W 0 m [] H) ∧ ∀ i m ys H, W i m ys H →
     ((Itl K a).stop i H ∧ ∀ l, H l = none → R l H ys) ∨ ((Itl K a).go i H ∧ ys.length < sizeLine ∧ ∃ (N : VK) (S : Hp → Prop), (∀ y H2, N y H2 → ∃ m', m' < m ∧ W (i + 1) m' (ys ++ [y]) H2) ∧ (∀ H2, S H2 → ∃ m', m' < m ∧ W (i + 1) m' ys H2) ∧
       ∀ x H', (Itl K a).yld i H x H' → B x H' fun b H2 => if b = true then T x H2 N else S H2) := by
 refine ⟨fun i m ys H => m = xs.length - i ∧ i ≤ xs.length ∧ Pv i ys H, ⟨xs.length, by simp, Nat.zero_le _, h0⟩, ?_⟩
 rintro i m ys H ⟨rfl, hi, p⟩
 obtain ⟨q, hy⟩ := hl i ys H hi p
 by_cases hlt : i < xs.length
 · refine .inr ⟨⟨xs, xs[i], q, by simp [hlt]⟩, by omega, fun y H2 => Pv (i + 1) (ys ++ [y]) H2, fun H2 => Pv (i + 1) ys H2, fun y H2 p' => ⟨xs.length - (i + 1), by omega, rfl, hlt, p'⟩, fun H2 p' => ⟨xs.length - (i + 1), by omega, rfl, hlt, p'⟩, fun x H' ⟨e, y⟩ => ?_⟩
   subst e
   exact hs i x ys _ (y xs q) p
 · have e : i = xs.length := by omega
   subst e
   exact .inl ⟨⟨xs, q, Nat.le_refl _⟩, hd ys H p⟩
theorem pg_nameT {X : Cx} {xs : List Str} {scope : Scope} {cl : List (Str × Addr)} {js : List Nat} {C : Addr} {s2 : Shared} {H2 : Hp} {fp : List Addr} {xe : Value → Shared → Prop} {i : Nat} {x : Str} {px : Pos} (L : LcOkT X xs scope cl js) (hi : (xs ++ js.map (fun j => X.N.getD j ""))[i]? = some x) (hx : x ∈ xs) :
   PG (X.inC scope cl C s2 H2 fp (xs ++ js.map (fun j => X.N.getD j "")) xe) (.Name x px) (gName i) :=
 pg_name (X := X.inC scope cl C s2 H2 fp (xs ++ js.map (fun j => X.N.getD j "")) xe) L.nd hi (Or.inl (lookup_relabel_local (L.loc x hx))) (Or.inr (lookup_relabel_local (L.loc x hx)))
theorem pg_tup2T {X : Cx} {x1 x2 : Str} {p1 p2 pos : Pos} {k : Nat} {scope : Scope} {cl : List (Str × Addr)} {js : List Nat} (hc : X.calm = true) (L : LcOkT X [x1, x2] scope cl js) :
   ∀ (C : Addr) (s2 : Shared) (H2 : Hp) (fp : List Addr) (xe : Value → Shared → Prop), PG (X.inC scope cl C s2 H2 fp ([x1, x2] ++ js.map (fun j => X.N.getD j "")) xe) (.Tuple [.Name x1 p1, .Name x2 p2] k pos) (gTup X.K 2 (gCons (gName 0) (gCons (gName 1) gNil))) := fun C s2 H2 fp xe =>
 pg_tup (X := X.inC scope cl C s2 H2 fp ([x1, x2] ++ js.map (fun j => X.N.getD j "")) xe) hc (pgs_cons (pg_nameT (i := 0) L rfl List.mem_cons_self) (pgs_cons (pg_nameT (i := 1) L rfl (List.mem_cons_of_mem _ List.mem_cons_self)) pgs_nil))
end L2
namespace PySem.W
open PySem PySem.Calls PyProof.Rows PyProof.V PySem.Spec
section
variable {prog : Program} {w : World} {A : Around} {E : Value → Shared → Prop}
variable {K : Type} [DecidableEq K] {knd : KeyKind prog w K}
def storedAll (kvs : List (K × Value)) (ps : List (K × Value)) : List (K × Value) := ps.foldl (fun acc p => stored acc p.1 p.2) kvs
end
end PySem.W
namespace L2
open PySem PySem.Spec PyProof.Rows L3
section
variable {X : Cx}
def putAll (kvs : List (Key × V)) (ps : List (Key × V)) : List (Key × V) := ps.foldl (fun acc p => putK acc p.1 p.2) kvs
theorem KV.putAll : ∀ {ps : List (Key × V)} {qs : List (Key × Value)} {kvs : List (Key × V)} {vs : List (Key × Value)}, KV ps qs → KV kvs vs → KV (putAll kvs ps) (PySem.W.storedAll vs qs) := by
 intro ps qs kvs vs r
 unfold KV at r
 induction r generalizing kvs vs with
 | nil => intro q; exact q
 | @cons p q ps qs h t ih =>
   intro r0
   have e : KV (putK kvs p.1 p.2) (stored vs q.1 q.2) := by
     have := r0.put p.1 h.2
     rw [← h.1]
     exact this
   exact ih e
end
end L2
namespace PySem.W
open PySem PySem.Calls PyProof.Rows PyProof.V PySem.Spec
section
variable {prog : Program} {w : World} {A : Around} {E : Value → Shared → Prop} {s : Shared} {r l : Addr} {items : Array Value}
end
end PySem.W
namespace L2
open PySem PySem.Spec PyProof.Rows L3
section
variable {X : Cx}
end
end L2
namespace L2
open PySem PySem.Spec PyProof.Rows L3
def DefX (K : PySem.W.Frag) (C : Addr) (qual : Str) (st : Stmt) : Prop := ∃ f fd, FunD K "__init__" qual st f fd .none ∧ PySem.W.findIn K (.ref C) "__init__" = some (some (.ref f)) ∧ PySem.W.isFn K (.ref f) = true
def CalX (P : Program) (w : World) (K : PySem.W.Frag) (mg : Str → Option Value) (base : Heap) (cm : Bool) (k : Nat) (C : Addr) (ps : List Str) (sp : Sp) : Prop :=
 ∃ f fd, PySem.W.findIn K (.ref C) "__init__" = some (some (.ref f)) ∧ PySem.W.isFn K (.ref f) = true ∧ FnOk P w K mg base CX0 cm k f fd ps sp ∧ Binds K fd ps []
section
variable {X : Cx}
end
end L2
namespace L2
open PySem PySem.W PyProof.Rows
structure Ord (n : Nat) (lt : Nat → Nat → Bool) : Prop where
 tri : ∀ i j, i < n → j < n → i ≠ j → lt i j = !lt j i
 tr : ∀ i j k, i < n → j < n → k < n → lt i j = true → lt j k = true → lt i k = true
def Asks (n : Nat) (lt : Nat → Nat → Bool) (cmp : Nat → Nat → (Bool → Shared → Prop) → Shared → Prop) (s : Shared) : Prop := ∀ i j C, i < n → j < n → i ≠ j → C (lt i j) s → cmp i j C s
structure PermN (n : Nat) (p : Array Nat) : Prop where
 pm : p.toList.Perm (List.range n)
theorem PermN.size {n : Nat} {p : Array Nat} (h : PermN n p) : p.size = n := by
 have := h.pm.length_eq
 simpa using this
theorem gD {p : Array Nat} {i : Nat} (h : i < p.size) : p.getD i 0 = p[i] := by
 rw [Array.getD_eq_getD_getElem?, Array.getElem?_eq_getElem h]
 rfl
theorem PermN.lt {n : Nat} {p : Array Nat} (h : PermN n p) {i : Nat} (hi : i < n) : p.getD i 0 < n := by
 rw [gD (by rw [h.size]; exact hi)]
 have : p[i]'(by rw [h.size]; exact hi) ∈ p.toList := by simp
 exact List.mem_range.mp (h.pm.mem_iff.mp this)
theorem PermN.inj {n : Nat} {p : Array Nat} (h : PermN n p) {i j : Nat} (hi : i < n) (hj : j < n) (hne : i ≠ j) : p.getD i 0 ≠ p.getD j 0 := by
 have hi' : i < p.toList.length := by rw [Array.length_toList, h.size]; exact hi
 have hj' : j < p.toList.length := by rw [Array.length_toList, h.size]; exact hj
 have nd : p.toList.Nodup := h.pm.nodup_iff.mpr List.nodup_range
 rw [gD (by rw [h.size]; exact hi), gD (by rw [h.size]; exact hj)]
 intro e
 exact hne ((List.getElem_inj (h₀ := hi') (h₁ := hj') nd).mp (by simpa using e))
def Up (lt : Nat → Nat → Bool) (p : Array Nat) (m : Nat) : Prop := ∀ i j, i < j → j < m → lt (p.getD i 0) (p.getD j 0) = true
def Dn (lt : Nat → Nat → Bool) (p : Array Nat) (m : Nat) : Prop := ∀ i j, i < j → j < m → lt (p.getD j 0) (p.getD i 0) = true
section
variable {n : Nat} {lt : Nat → Nat → Bool} {cmp : Nat → Nat → (Bool → Shared → Prop) → Shared → Prop} {s : Shared}
theorem Up.next (O : Ord n lt) {p : Array Nat} (P : PermN n p) {m : Nat} (h1 : 1 ≤ m) (hm : m < n) (u : Up lt p m) (h : lt (p.getD (m - 1) 0) (p.getD m 0) = true) : Up lt p (m + 1) := by
 intro i j hij hj
 by_cases e : j = m
 · subst e
   by_cases e2 : i = j - 1
   · subst e2; exact h
   · exact O.tr _ _ _ (P.lt (by omega)) (P.lt (by omega)) (P.lt hm) (u i (j - 1) (by omega) (by omega)) h
 · exact u i j hij (by omega)
theorem Dn.next (O : Ord n lt) {p : Array Nat} (P : PermN n p) {m : Nat} (h1 : 1 ≤ m) (hm : m < n) (u : Dn lt p m) (h : lt (p.getD m 0) (p.getD (m - 1) 0) = true) : Dn lt p (m + 1) := by
 intro i j hij hj
 by_cases e : j = m
 · subst e
   by_cases e2 : i = j - 1
   · subst e2; exact h
   · exact O.tr _ _ _ (P.lt hm) (P.lt (by omega)) (P.lt (by omega)) h (u i (j - 1) (by omega) (by omega))
 · exact u i j hij (by omega)
theorem Ord.flip (O : Ord n lt) {i j : Nat} (hi : i < n) (hj : j < n) (hne : i ≠ j) (h : ¬ lt i j = true) : lt j i = true := by
 have := O.tri i j hi hj hne
 cases e : lt j i with
 | true => rfl
 | false => rw [e] at this; exact absurd this h
theorem asc_ok (O : Ord n lt) (A : Asks n lt cmp s) {p : Array Nat} (P : PermN n p) {Q : Nat → Shared → Prop} : ∀ (f m : Nat), 1 ≤ m → m + f ≤ n → Up lt p m →
   (∀ m', m ≤ m' → m' ≤ m + f → Up lt p m' → (m' < m + f → lt (p.getD m' 0) (p.getD (m' - 1) 0) = true) → Q m' s) → (kas_asc p f m).kasWp cmp Q s
 | 0, m, h1, h2, u, q => q m (Nat.le_refl _) (Nat.le_refl _) u (fun z => absurd z (by omega))
 | f + 1, m, h1, h2, u, q => by
   refine A _ _ _ (P.lt (by omega)) (P.lt (by omega)) (P.inj (by omega) (by omega) (by omega)) ?_
   by_cases c : lt (p.getD m 0) (p.getD (m - 1) 0) = true
   · show KasT.kasWp cmp (if lt (p.getD m 0) (p.getD (m - 1) 0) = true then .ret m else kas_asc p f (m + 1)) Q s
     rw [if_pos c]
     exact q m (Nat.le_refl _) (by omega) u fun _ => c
   · show KasT.kasWp cmp (if lt (p.getD m 0) (p.getD (m - 1) 0) = true then .ret m else kas_asc p f (m + 1)) Q s
     rw [if_neg c]
     exact asc_ok O A P f (m + 1) (by omega) (by omega) (u.next O P h1 (by omega) (O.flip (P.lt (by omega)) (P.lt (by omega)) (P.inj (by omega) (by omega) (by omega)) c)) fun m' a b c d => q m' (by omega) (by omega) c fun z => d (by omega)
theorem desc_ok (O : Ord n lt) (A : Asks n lt cmp s) {p : Array Nat} (P : PermN n p) {Q : Array Nat × Nat × Nat → Shared → Prop} : ∀ (f m : Nat), 1 ≤ m → m + f ≤ n → Dn lt p m →
   (∀ m', m ≤ m' → m' ≤ m + f → Dn lt p m' → Q (p, m', 0) s) → (kas_desc f p m 0).kasWp cmp Q s
 | 0, m, h1, h2, u, q => q m (Nat.le_refl _) (Nat.le_refl _) u
 | f + 1, m, h1, h2, u, q => by
   refine A _ _ _ (P.lt (by omega)) (P.lt (by omega)) (P.inj (by omega) (by omega) (by omega)) ?_
   by_cases c : lt (p.getD m 0) (p.getD (m - 1) 0) = true
   · show KasT.kasWp cmp (if lt (p.getD m 0) (p.getD (m - 1) 0) = true then (if 0 > 0 then _ else kas_desc f p (m + 1) 0) else _) Q s
     rw [if_pos c, if_neg (Nat.lt_irrefl 0)]
     exact desc_ok O A P f (m + 1) (by omega) (by omega) (u.next O P h1 (by omega) c) fun m' a b d => q m' (by omega) (by omega) d
   · show KasT.kasWp cmp (if lt (p.getD m 0) (p.getD (m - 1) 0) = true then _ else _) Q s
     rw [if_neg c]
     have c2 := O.flip (P.lt (by omega)) (P.lt (by omega)) (P.inj (i := m) (j := m - 1) (by omega) (by omega) (by omega)) c
     refine A _ _ _ (P.lt (by omega)) (P.lt (by omega)) (P.inj (by omega) (by omega) (by omega)) ?_
     show KasT.kasWp cmp (if lt (p.getD (m - 1) 0) (p.getD m 0) = true then .ret (p, m, 0) else _) Q s
     rw [if_pos c2]
     exact q m (Nat.le_refl _) (by omega) u
theorem rev_perm {p : Array Nat} (P : PermN n p) (m : Nat) : PermN n (kas_rev p 0 m) := ⟨(Array.perm_iff_toList_perm.mp (mirror_perm p 0 m _)).trans P.pm⟩
theorem rev_at {p : Array Nat} {m : Nat} (hm : m ≤ p.size) (k : Nat) : (kas_rev p 0 m).getD k 0 = if k < m then p.getD (m - 1 - k) 0 else p.getD k 0 := by
 unfold kas_rev
 rw [Array.getD_eq_getD_getElem?, getElem?_mirror_all hm]
 by_cases h : k < m
 · rw [if_pos ⟨Nat.zero_le _, h⟩, if_pos h, Array.getD_eq_getD_getElem?]
   congr 2
   omega
 · rw [if_neg (fun z => h z.2), if_neg h, Array.getD_eq_getD_getElem?]
theorem Dn.rev {p : Array Nat} {m : Nat} (hm : m ≤ p.size) (d : Dn lt p m) : Up lt (kas_rev p 0 m) m := by
 intro i j hij hj
 rw [rev_at hm, rev_at hm, if_pos (by omega), if_pos hj]
 exact d _ _ (by omega) (by omega)
theorem count_ok (O : Ord n lt) (A : Asks n lt cmp s) {p : Array Nat} (P : PermN n p) (hn : 2 ≤ n) {Q : Nat × Array Nat → Shared → Prop} (q : ∀ m p', 1 ≤ m → m ≤ n → PermN n p' → Up lt p' m → Q (m, p') s) : (kas_count n p).kasWp cmp Q s := by
 unfold kas_count
 rw [KasT.kasWp_bind]
 refine asc_ok O A P (n - 1) 1 (Nat.le_refl _) (by omega) (fun i j h1 h2 => by omega) fun m h1 h2 u d => ?_
 by_cases e : m = n
 · subst e
   rw [if_pos (by simp)]
   exact q m p h1 (Nat.le_refl _) P u
 · rw [if_neg (by simpa using e)]
   by_cases g : m > 1
   · rw [if_pos g]
     refine A _ _ _ (P.lt (by omega)) (P.lt (by omega)) (P.inj (by omega) (by omega) (by omega)) ?_
     show KasT.kasWp cmp (if lt (p.getD 0 0) (p.getD (m - 1) 0) = true then .ret (m, p) else _) Q s
     rw [if_pos (u 0 (m - 1) (by omega) (by omega))]
     exact q m p h1 (by omega) P u
   · rw [if_neg g]
     have e1 : m = 1 := by omega
     subst e1
     unfold kas_descPart
     rw [KasT.kasWp_bind]
     refine desc_ok O A P (n - 2) 2 (by omega) (by omega) (fun i j h1 h2 => ?_) fun m' a b dn => ?_
     · have ei : i = 0 := by omega
       have ej : j = 1 := by omega
       subst ei ej
       exact d (by omega)
     · show KasT.kasWp cmp (if 0 > 0 then _ else kas_tail3 m' n p) Q s
       rw [if_neg (Nat.lt_irrefl 0)]
       unfold kas_tail3
       rw [KasT.kasWp_bind]
       refine asc_ok O A (rev_perm P m') (n - m') m' (by omega) (by omega) (dn.rev (by rw [P.size]; omega)) fun m2 c1 c2 u2 _ => ?_
       exact q m2 _ (by omega) (by omega) (rev_perm P m') u2
theorem place_ok (O : Ord n lt) (A : Asks n lt cmp s) {p : Array Nat} (P : PermN n p) {k : Nat} (hk : k < n) (u : Up lt p k) {Q : Nat → Shared → Prop}
   (q : ∀ l, l ≤ k → (∀ i, i < l → lt (p.getD i 0) (p.getD k 0) = true) → (∀ i, l ≤ i → i < k → lt (p.getD k 0) (p.getD i 0) = true) → Q l s) : ∀ (f l r : Nat), l ≤ r → r ≤ k → r - l ≤ f →
   (∀ i, i < l → lt (p.getD i 0) (p.getD k 0) = true) → (∀ i, r ≤ i → i < k → lt (p.getD k 0) (p.getD i 0) = true) → (kas_place p k f l r).kasWp cmp Q s
 | 0, l, r, h1, h2, h3, a, b => q l (by omega) a fun i x y => b i (by omega) y
 | f + 1, l, r, h1, h2, h3, a, b => by
   unfold kas_place
   by_cases e : l ≥ r
   · rw [if_pos e]
     exact q l (by omega) a fun i x y => b i (by omega) y
   · rw [if_neg e]
     refine A _ _ _ (P.lt hk) (P.lt (by omega)) (P.inj hk (by omega) (by omega)) ?_
     by_cases c : lt (p.getD k 0) (p.getD ((l + r) / 2) 0) = true
     · show KasT.kasWp cmp (if lt (p.getD k 0) (p.getD ((l + r) / 2) 0) = true then kas_place p k f l ((l + r) / 2) else _) Q s
       rw [if_pos c]
       refine place_ok O A P hk u q f l ((l + r) / 2) (by omega) (by omega) (by omega) a fun i x y => ?_
       by_cases e2 : i = (l + r) / 2
       · subst e2; exact c
       · exact O.tr _ _ _ (P.lt hk) (P.lt (by omega)) (P.lt (by omega)) c (u _ _ (by omega) y)
     · show KasT.kasWp cmp (if lt (p.getD k 0) (p.getD ((l + r) / 2) 0) = true then _ else kas_place p k f ((l + r) / 2 + 1) r) Q s
       rw [if_neg c]
       have c2 := O.flip (P.lt hk) (P.lt (by omega)) (P.inj hk (j := (l + r) / 2) (by omega) (by omega)) c
       refine place_ok O A P hk u q f ((l + r) / 2 + 1) r (by omega) h2 (by omega) (fun i x => ?_) b
       by_cases e2 : i = (l + r) / 2
       · subst e2; exact c2
       · exact O.tr _ _ _ (P.lt (by omega)) (P.lt (by omega)) (P.lt hk) (u _ _ (by omega) (by omega)) c2
theorem bubble_at {p : Array Nat} {k l : Nat} (hk : k < p.size) (hl : l ≤ k) (i : Nat) : (bubble p k (k - l)).getD i 0 = if i = l then p.getD k 0 else if l < i ∧ i ≤ k then p.getD (i - 1) 0 else p.getD i 0 := by
 rw [Array.getD_eq_getD_getElem?, getElem?_bubble hk _ (by omega)]
 have e : k - (k - l) = l := by omega
 rw [e]
 by_cases h1 : i = l
 · rw [if_pos h1, if_pos h1, Array.getD_eq_getD_getElem?]
 · rw [if_neg h1, if_neg h1]
   by_cases h2 : l < i ∧ i ≤ k
   · rw [if_pos h2, if_pos h2, Array.getD_eq_getD_getElem?]
   · rw [if_neg h2, if_neg h2, Array.getD_eq_getD_getElem?]
theorem bin_ok (O : Ord n lt) (A : Asks n lt cmp s) {Q : Array Nat → Shared → Prop} (q : ∀ p, PermN n p → Up lt p n → Q p s) : ∀ (f : Nat) (p : Array Nat) (k : Nat), PermN n p → k + f = n → Up lt p k → (kas_bin f p k).kasWp cmp Q s
 | 0, p, k, P, h, u => q p P (by rw [← h]; exact u)
 | f + 1, p, k, P, h, u => by
   unfold kas_bin
   rw [KasT.kasWp_bind]
   refine place_ok O A P (k := k) (by omega) u (fun l hl a b => ?_) k 0 k (Nat.zero_le _) (Nat.le_refl _) (by omega) (fun i z => by omega) (fun i x y => by omega)
   have hks : k < p.size := by rw [P.size]; omega
   refine bin_ok O A q f _ (k + 1) ⟨(Array.perm_iff_toList_perm.mp (bubble_perm p k _)).trans P.pm⟩ (by omega) fun i j hij hj => ?_
   rw [bubble_at hks hl, bubble_at hks hl]
   by_cases ei : i = l
   · rw [if_pos ei, if_neg (by omega), if_pos (by omega)]
     exact b (j - 1) (by omega) (by omega)
   · rw [if_neg ei]
     by_cases ej : j = l
     · rw [if_pos ej, if_neg (by omega)]
       exact a i (by omega)
     · rw [if_neg ej]
       by_cases c1 : l < i ∧ i ≤ k
       · rw [if_pos c1, if_pos (by omega)]
         exact u _ _ (by omega) (by omega)
       · rw [if_neg c1]
         by_cases c2 : l < j ∧ j ≤ k
         · rw [if_pos c2]
           exact u _ _ (by omega) (by omega)
         · rw [if_neg c2]
           exact u _ _ (by omega) (by omega)
theorem sort_ok (O : Ord n lt) (A : Asks n lt cmp s) (hn : 2 ≤ n) {Q : Array Nat → Shared → Prop} (q : ∀ p, PermN n p → Up lt p n → Q p s) : (kas_sort n).kasWp cmp Q s := by
 unfold kas_sort
 rw [KasT.kasWp_bind]
 refine count_ok O A ⟨by simp⟩ hn fun m p h1 h2 P u => ?_
 by_cases e : m < n
 · show KasT.kasWp cmp (if m < n then kas_bin (n - max m 1) p (max m 1) else .ret p) Q s
   rw [if_pos e, show max m 1 = m by omega]
   exact bin_ok O A q _ p m P (by omega) u
 · show KasT.kasWp cmp (if m < n then kas_bin (n - max m 1) p (max m 1) else .ret p) Q s
   rw [if_neg e]
   exact q p P (by rw [show n = m by omega]; exact u)
end
end L2
namespace L2
open PySem PySem.W PySem.Spec PyProof.Rows L3
section
variable {prog : Program} {w : World} {s : Shared} {A : Around} {E : Value → Shared → Prop}
theorem RawD.stay {h h' : Heap} {d : Addr} {es : Array DictEntry} {ep : Nat} (x : RawD h d es ep) (k : ∀ o, h.get? d = some o → h'.get? d = some o) : RawD h' d es ep := by
 obtain ⟨o, ho, r⟩ := x
 exact ⟨o, k o ho, r⟩
theorem RawD.lt {h : Heap} {d : Addr} {es : Array DictEntry} {ep : Nat} (x : RawD h d es ep) : d < h.objs.size := by
 obtain ⟨o, ho, _⟩ := x
 exact Heap.lt_size ho
theorem rawWalks (hh : A.handled = none) (I d : Addr) (hne : d ≠ I) (es : Array DictEntry) (ep : Nat) :
   Walks prog w A I [I, d] [I] es.size (fun i v => ∃ e, es[i]? = some e ∧ v = e.key) (fun i h => h.IsKeyIter I d i es.size ep ∧ RawD h d es ep) where
 sub := fun b hb => by rw [List.mem_singleton.mp hb]; exact List.mem_cons_self
 frame := fun _ _ _ st hk => ⟨st.1.at fun o e => hk I (by simp) o e, st.2.stay fun o e => hk d (by simp) o e⟩
 item := fun i s R E hi st hR => by
   refine raw_next hh st.1 st.2 (fun h h' it sb => ?_) fun z => absurd hi (by omega)
   exact hR _ h' s.toks ⟨es[i], Array.getElem?_eq_getElem h, rfl⟩ ⟨it, st.2.stay fun o e => (sb.2 d hne).trans e⟩ fun b o hb e => (sb.2 b (fun z => hb (by simp [z]))).trans e
 done := fun s R E st hR => by
   refine raw_next hh st.1 st.2 (fun h => absurd h (Nat.lt_irrefl _)) fun _ h' eb => ?_
   exact hR h' s.toks fun b o hb e => eb b o (fun z => hb (by simp [z])) e
 self := fun _ _ _ _ x hR => wpAny_pyIter_keyiter x.1 hR
theorem rawSrc {d : Addr} {es : Array DictEntry} {ep : Nat} (lo : (d == sysModules) = false) : KdlSrc prog w "dict" d d es.size (fun i v => ∃ e, es[i]? = some e ∧ v = e.key) (fun h => RawD h d es ep) where
 type := fun _ hm => hm.typeIs
 there := fun _ hm => ⟨hm.lt, hm.lt⟩
 keep := fun _ _ hm hk => hm.stay fun o e => hk d (.inl rfl) o e
 notList := by decide
 notTuple := by decide
 hint := fun _ _ _ _ hm hq => kdl_hint_dict hm.typeIs hq
 iter := fun _ _ hh hm => ⟨_, _, (fun _ _ hq => raw_iter lo hm hq), rawWalks hh _ d (Nat.ne_of_lt hm.lt) es ep, ⟨⟨_, Heap.get?_push_size _ rfl, rfl, rfl⟩, hm.stay fun o e => Heap.get?_push_of_some _ e⟩⟩
theorem iadd_raw {R : Result → Shared → Prop} {d S : Addr} {es : Array DictEntry} {ep : Nat} (lo : (d == sysModules) = false) (hh : A.handled = none) (hm : RawD s.heap d es ep) (hn : es.size ≤ sizeLine) (hSd : S ≠ d) (hS : s.heap.get? S = some { cls := .type "list", data := .seq #[] 0 })
   (hR : ∀ h' tk acc' c', (∀ b o, b ≠ S → s.heap.get? b = some o → h'.get? b = some o) → h'.get? S = some { cls := .type "list", dict := none, data := .seq acc' c', slots := #[] } → acc'.toList = es.toList.map (·.key) → R (.ok (.ret (.ref S))) { s with heap := h', toks := tk }) :
   codeAny (model prog w) A (.builtin "list.__iadd__" ⟨[.ref S, .ref d], []⟩) R s := by
 refine codeAny_builtin entry_list_iadd' ?_
 refine kdl_extend (R := R) (rawSrc lo) hh hm S hSd hSd (.ref S) 0 hS (fun h' tk acc c k hS' hacc => hR h' tk acc c k hS' ?_) hn
 apply List.ext_getElem?
 intro i
 rw [List.getElem?_map]
 by_cases hi : i < acc.toList.length
 · have hi2 : i < acc.size := by simpa using hi
   obtain ⟨e, h1, h2⟩ := hacc.2 i acc[i] (Array.getElem?_eq_getElem hi2)
   rw [List.getElem?_eq_getElem hi, Array.getElem?_toList, h1]
   simp [h2]
 · rw [List.getElem?_eq_none (by omega), Array.getElem?_toList, Array.getElem?_eq_none (by have := hacc.1; simp at hi; omega)]
   rfl
theorem collect_raw {d : Addr} {es : Array DictEntry} {ep : Nat} {Q : List Value → Shared → Prop} (lo : (d == sysModules) = false) (hh : A.handled = none) (hm : RawD s.heap d es ep) (hn : es.size ≤ sizeLine)
   (h : ∀ h' tk, (∀ b o, s.heap.get? b = some o → h'.get? b = some o) → s.heap.objs.size < h'.objs.size → Q (es.toList.map (·.key)) { s with heap := h', toks := tk }) : wpAny (model prog w) A (collect (.ref d)) Q E s := by
 unfold collect; refine wpAny_bind (wpAny_runValue (codeAny_builtin entry_proto_collect' ?_))
 have hS : (s.heap.push (seqObj "list" #[] 0)).get? s.heap.objs.size = some (seqObj "list" #[] 0) := Heap.get?_push_size _ rfl
 have hm' : RawD (s.heap.push (seqObj "list" #[] 0)) d es ep := hm.stay fun o e => Heap.get?_push_of_some _ e
 have hSd : s.heap.objs.size ≠ d := Ne.symm (Nat.ne_of_lt hm.lt)
 refine wpAny_bind (wpAny_newList (wpAny_pure ⟨Code.quiet_builtin _ (by decide +kernel), iadd_raw (s := { s with heap := s.heap.push (seqObj "list" #[] 0) }) lo hh hm' hn hSd hS fun h' tk acc c k hS' e => ?_⟩))
 refine (wpAny_bind (wpAny_load (s := { s with heap := h', toks := tk }) hS' ?_) : wpAny (model prog w) A (load s.heap.objs.size >>= fun o => match o.data with | .seq xs _ => pure xs.toList | _ => unsupported "internal:collect") Q E { s with heap := h', toks := tk })
 show wpAny (model prog w) A (pure acc.toList) Q E _
 rw [e]
 exact wpAny_pure (h h' tk (fun b o hb => k b o (Nat.ne_of_lt (Heap.lt_size hb)) (Heap.get?_push_of_some _ hb)) (Heap.lt_size hS'))
end
end L2
namespace L2
open PySem PySem.W PySem.Spec PyProof.Rows L3
section
variable {prog : Program} {w : World} {s : Shared} {A : Around} {E : Value → Shared → Prop}
theorem tsort {a : Addr} {vs : List Value} {n : Nat} {κ : SortKind} {lt : Nat → Nat → Bool} {P : PySem.Fin → Shared → Prop} (hl : s.heap.get? a = some (seqObj "list" vs.toArray n)) (h2 : 2 ≤ vs.length) (h64 : vs.length < 64) (O : Ord vs.length lt)
   (hk : ∀ h', (∀ b o, b ≠ a → s.heap.get? b = some o → h'.get? b = some o) → (∀ (Q : SortKind → Shared → Prop), Q κ { s with heap := h' } → wpAny (model prog w) A (keyKind' vs.toArray) Q (fun _ _ => False) { s with heap := h' }) ∧ Asks vs.length lt (kas_ask prog w A κ vs) { s with heap := h' })
   (fin : ∀ h' p c, PermN vs.length p → Up lt p vs.length → (∀ b o, b ≠ a → s.heap.get? b = some o → h'.get? b = some o) → h'.get? a = some (seqObj "list" (List.toArray (p.toList.map fun i => vs.getD i Value.none)) c) → P (.done (.ret .none)) { s with heap := h' }) :
   wpAny (model prog w) A (PySem.Builtin.«list.sort» ⟨[Value.ref a], []⟩) P E s := by
 obtain ⟨c1, hc1⟩ : ∃ c, (s.heap.update a (Obj.mapSeq fun _ => #[])).get? a = some (seqObj "list" #[] c) := ⟨_, get?_update_seq hl _⟩
 obtain ⟨H3, e3⟩ : ∃ H3, H3 = ((s.heap.update a (Obj.mapSeq fun _ => #[])).push (seqObj "tuple" vs.toArray 0)).push (seqObj "list" #[] 0) := ⟨_, rfl⟩
 have old : ∀ b o, b ≠ a → s.heap.get? b = some o → H3.get? b = some o := fun b o hb e => by
   rw [e3]
   exact Heap.get?_push_of_some _ (Heap.get?_push_of_some _ (((Heap.SameBut.update s.heap a _).2 b hb).trans e))
 have at3 : H3.get? a = some (seqObj "list" #[] c1) := by
   rw [e3]
   exact Heap.get?_push_of_some _ (Heap.get?_push_of_some _ hc1)
 obtain ⟨kk, asks⟩ := hk H3 old
 rw [list_sort_plain]; refine wpAny_bind (listItems_at hl rfl (wpAny_bind (listUpdate_at hl rfl ?_ (by rw [List.size_toArray, sizeLine_eq]; omega) (Nat.zero_le _))))
 refine wpAny_bind (seqEpoch_at hc1 rfl (wpAny_bind (wpAny_newTuple (wpAny_bind (wpAny_newList (wpAny_holding ?_) (Nat.zero_le _))) (by show vs.length ≤ _; rw [sizeLine_eq]; omega))))
 refine (?_ : wpAny (model prog w) A _ P E { s with heap := ((s.heap.update a (Obj.mapSeq fun _ => #[])).push (seqObj "tuple" vs.toArray 0)).push (seqObj "list" #[] 0) }); rw [← e3]
 dsimp only
 have big : ¬ vs.toArray.size < 2 := by rw [List.size_toArray]; omega
 rw [if_neg big, if_neg big]
 refine wpAny_bind (wpAny_mono (kk (fun κ' s0 => κ' = κ ∧ s0 = { s with heap := H3 }) ⟨rfl, rfl⟩) (fun κ' s0 z => ?_) fun _ _ x => x.elim)
 obtain ⟨rfl, rfl⟩ := z
 refine wpAny_bind (wpAny_mono (kat_run (Q := fun st' s' => ∃ p : Array Nat, arrOf st' = p.map (kas_item (vs.toArray.zip vs.toArray)) ∧ failedOf st' = none ∧ PermN vs.length p ∧ Up lt p vs.length ∧ s' = { s with heap := H3 }) rfl h2 h64 (fun p st' s' _ a2 a3 a4 => ⟨p, a2, a3, a4⟩) (sort_ok O asks h2 fun p PP u => ⟨PP, u, rfl⟩)) ?_ fun _ _ e => e)
 rintro ⟨⟨⟩, st'⟩ s' ⟨p, har, hf, PP, u, rfl⟩
 dsimp only
 rw [kat_snds rfl har]
 refine wpAny_bind (seqEpoch_at at3 rfl (wpAny_bind (listUpdate_at at3 rfl ?_ (Nat.zero_le _) ?_)))
 · rw [hf]; simp only [bne_self_eq_false, Bool.false_eq_true, if_false]
   exact wpAny_pure (fin _ p _ PP u (fun b o hb e => ((Heap.SameBut.update H3 a _).2 b hb).trans (old b o hb e)) (get?_update_seq at3 _))
 · show (List.toArray (p.toList.map fun i => vs.getD i Value.none)).size ≤ _
   rw [List.size_toArray, List.length_map, Array.length_toList, PP.size, sizeLine_eq]
   omega
theorem tsort1 {a : Addr} {vs : List Value} {n : Nat} {P : PySem.Fin → Shared → Prop} (hl : s.heap.get? a = some (seqObj "list" vs.toArray n)) (h1 : vs.length < 2)
   (fin : ∀ h' c, (∀ b o, b ≠ a → s.heap.get? b = some o → h'.get? b = some o) → h'.get? a = some (seqObj "list" vs.toArray c) → P (.done (.ret .none)) { s with heap := h' }) :
   wpAny (model prog w) A (PySem.Builtin.«list.sort» ⟨[Value.ref a], []⟩) P E s := by
 obtain ⟨c1, hc1⟩ : ∃ c, (s.heap.update a (Obj.mapSeq fun _ => #[])).get? a = some (seqObj "list" #[] c) := ⟨_, get?_update_seq hl _⟩
 obtain ⟨H3, e3⟩ : ∃ H3, H3 = ((s.heap.update a (Obj.mapSeq fun _ => #[])).push (seqObj "tuple" vs.toArray 0)).push (seqObj "list" #[] 0) := ⟨_, rfl⟩
 have old : ∀ b o, b ≠ a → s.heap.get? b = some o → H3.get? b = some o := fun b o hb e => by
   rw [e3]
   exact Heap.get?_push_of_some _ (Heap.get?_push_of_some _ (((Heap.SameBut.update s.heap a _).2 b hb).trans e))
 have at3 : H3.get? a = some (seqObj "list" #[] c1) := by
   rw [e3]
   exact Heap.get?_push_of_some _ (Heap.get?_push_of_some _ hc1)
 rw [list_sort_plain]; refine wpAny_bind (listItems_at hl rfl (wpAny_bind (listUpdate_at hl rfl ?_ (by rw [List.size_toArray, sizeLine_eq]; omega) (Nat.zero_le _))))
 refine wpAny_bind (seqEpoch_at hc1 rfl (wpAny_bind (wpAny_newTuple (wpAny_bind (wpAny_newList (wpAny_holding ?_) (Nat.zero_le _))) (by show vs.length ≤ _; rw [sizeLine_eq]; omega))))
 refine (?_ : wpAny (model prog w) A _ P E { s with heap := ((s.heap.update a (Obj.mapSeq fun _ => #[])).push (seqObj "tuple" vs.toArray 0)).push (seqObj "list" #[] 0) }); rw [← e3]
 dsimp only
 have big : vs.toArray.size < 2 := by rw [List.size_toArray]; omega
 rw [if_pos big, if_pos big]
 refine wpAny_bind (wpAny_pure ?_); rw [StateT.run_pure]; refine wpAny_bind (wpAny_pure ?_); dsimp only
 have eo : (arrOf (SortSt.mk' general' (vs.toArray.zip vs.toArray) #[] 7 none)).map (·.2) = vs.toArray := by
   show (vs.toArray.zip vs.toArray).map (·.2) = _
   rw [Array.map_snd_zip (Nat.le_refl _)]
 rw [eo]
 refine wpAny_bind (seqEpoch_at at3 rfl (wpAny_bind (listUpdate_at at3 rfl ?_ (Nat.zero_le _) ?_)))
 · simp only [bne_self_eq_false, Bool.false_eq_true, if_false, ite_self]
   exact wpAny_pure (fin _ _ (fun b o hb e => ((Heap.SameBut.update H3 a _).2 b hb).trans (old b o hb e)) (get?_update_seq at3 _))
 · show vs.toArray.size ≤ _
   rw [List.size_toArray, sizeLine_eq]
   omega
end
end L2
namespace L2
open PySem PySem.W PySem.Spec PyProof.Rows L3
section
variable {prog : Program} {w : World} {s : Shared} {A : Around} {E : Value → Shared → Prop}
theorem perm_range (n : Nat) : PermN n (List.toArray (List.range n)) := ⟨by simp⟩
theorem range_map (vs : List Value) : ((List.toArray (List.range vs.length)).toList.map fun i => vs.getD i Value.none) = vs := by
 apply List.ext_getElem
 · simp
 · intro i h1 h2
   simp [List.getD, h2]
theorem sorted_raw {d : Addr} {es : Array DictEntry} {ep : Nat} {κ : SortKind} {lt : Nat → Nat → Bool} {vs : List Value} {Q : Value → Shared → Prop} (lo : (d == sysModules) = false) (hh : A.handled = none) (hm : RawD s.heap d es ep) (hv : es.toList.map (·.key) = vs) (h64 : vs.length < 64) (O : Ord vs.length lt)
   (hk : 2 ≤ vs.length → ∀ h' tk, (∀ b o, s.heap.get? b = some o → h'.get? b = some o) → (∀ (R : SortKind → Shared → Prop), R κ { s with heap := h', toks := tk } → wpAny (model prog w) A.in1.in1 (keyKind' vs.toArray) R (fun _ _ => False) { s with heap := h', toks := tk }) ∧ Asks vs.length lt (kas_ask prog w A.in1.in1 κ vs) { s with heap := h', toks := tk })
   (fin : ∀ h' tk D p c, PermN vs.length p → Up lt p vs.length → (∀ b o, s.heap.get? b = some o → h'.get? b = some o) → s.heap.objs.size ≤ D → h'.get? D = some (seqObj "list" (List.toArray (p.toList.map fun i => vs.getD i Value.none)) c) → Q (.ref D) { s with heap := h', toks := tk }) :
   wpAny (model prog w) A (call (.builtin "sorted") [Value.ref d]) Q E s := by
 have hn : es.size ≤ sizeLine := by
   have := congrArg List.length hv
   rw [List.length_map, Array.length_toList] at this
   rw [this, sizeLine_eq]
   omega
 refine Calls.call_function_entry kind_sorted plain_sorted entry_sorted (args_sorted1 _) (?_ : wpAny _ _ (Builtin.«sorted» _) _ _ s)
 unfold Builtin.«sorted»; refine wpAny_bind (m := checkCount "sorted" 1 1 _) (wpAny_pure (wpAny_bind (collect_raw lo hh hm hn fun h1 tk k1 l1 => ?_)))
 rw [hv]; refine wpAny_bind (wpAny_newList ?_ (by rw [sizeLine_eq]; omega))
 have hD : (h1.push (seqObj "list" vs.toArray 0)).get? h1.objs.size = some (seqObj "list" vs.toArray 0) := Heap.get?_push_size _ rfl
 have k2 : ∀ b o, s.heap.get? b = some o → (h1.push (seqObj "list" vs.toArray 0)).get? b = some o := fun b o e => Heap.get?_push_of_some _ (k1 b o e)
 have nD : ∀ b o, s.heap.get? b = some o → b ≠ h1.objs.size := fun b o e => Nat.ne_of_lt (Heap.lt_size (k1 b o e))
 have lD : s.heap.objs.size ≤ h1.objs.size := Nat.le_of_lt l1
 refine wpAny_bind (wpAny_holding (wpAny_call_entry slot_list_sort ⟨_, hD, rfl⟩ entry_list_sort ?body (args_list_sort _)))
 by_cases h2 : 2 ≤ vs.length
 · refine tsort (s := { s with heap := h1.push (seqObj "list" vs.toArray 0), toks := tk }) hD h2 h64 O (fun h' kp => hk h2 h' tk fun b o e => kp b o (nD b o e) (k2 b o e)) fun h' p c PP u kp hf => ?_
   exact ⟨_, rfl, wpAny_pure ⟨_, rfl, fin h' tk _ p c PP u (fun b o e => kp b o (nD b o e) (k2 b o e)) lD hf⟩⟩
 · refine tsort1 (s := { s with heap := h1.push (seqObj "list" vs.toArray 0), toks := tk }) hD (by omega) fun h' c kp hf => ?_
   exact ⟨_, rfl, wpAny_pure ⟨_, rfl, fin h' tk _ _ c (perm_range _) (fun i j a b => by omega) (fun b o e => kp b o (nD b o e) (k2 b o e)) lD (by rw [range_map]; exact hf)⟩⟩
end
end L2
namespace L2
open PySem PySem.W PySem.Spec PyProof.Rows L3
def ltS (x y : Str) : Bool := decide (x.cps.toList < y.cps.toList)
def ltP (k l : Str × Str) : Bool := if k.1 = l.1 then ltS k.2 l.2 else ltS k.1 l.1
theorem str_eq {x y : Str} (h : x.cps.toList = y.cps.toList) : x = y := by
 cases x; cases y
 simp only [Str.mk.injEq]
 exact Array.toList_inj.mp h
theorem ltS_tri {x y : Str} (h : x ≠ y) : ltS x y = !ltS y x := by
 unfold ltS
 by_cases a : x.cps.toList < y.cps.toList
 · have : ¬ y.cps.toList < x.cps.toList := fun b => List.lt_irrefl _ (List.lt_trans a b)
   simp [a, this]
 · have : y.cps.toList < x.cps.toList := by
     rcases Classical.em (y.cps.toList < x.cps.toList) with b | b
     · exact b
     · exact absurd (str_eq (List.le_antisymm (List.not_lt.mp b) (List.not_lt.mp a))) h
   simp [a, this]
theorem ltS_tr {x y z : Str} (h1 : ltS x y = true) (h2 : ltS y z = true) : ltS x z = true := by
 unfold ltS at *
 exact decide_eq_true (List.lt_trans (of_decide_eq_true h1) (of_decide_eq_true h2))
theorem ltS_ne {x y : Str} (h : ltS x y = true) : x ≠ y := fun e => by
 subst e
 exact List.lt_irrefl _ (of_decide_eq_true h)
theorem ltP_tri {k l : Str × Str} (h : k ≠ l) : ltP k l = !ltP l k := by
 unfold ltP
 by_cases e : k.1 = l.1
 · rw [if_pos e, if_pos e.symm]
   exact ltS_tri fun z => h (Prod.ext e z)
 · rw [if_neg e, if_neg (Ne.symm e)]
   exact ltS_tri e
theorem ltP_tr {k l m : Str × Str} (h1 : ltP k l = true) (h2 : ltP l m = true) : ltP k m = true := by
 unfold ltP at *
 by_cases e : k.1 = l.1
 · rw [if_pos e] at h1
   by_cases f : l.1 = m.1
   · rw [if_pos f] at h2
     rw [if_pos (e.trans f)]
     exact ltS_tr h1 h2
   · rw [if_neg f] at h2
     rw [if_neg (fun z => f (e.symm.trans z)), e]
     exact h2
 · rw [if_neg e] at h1
   by_cases f : l.1 = m.1
   · rw [if_neg (fun z => e (z.trans f.symm)), ← f]
     exact h1
   · rw [if_neg f] at h2
     have h3 := ltS_tr h1 h2
     rw [if_neg (ltS_ne h3)]
     exact h3
theorem ord_pairs {ks : List (Str × Str)} (nd : ks.Nodup) : Ord ks.length (fun i j => ltP (ks.getD i ("", "")) (ks.getD j ("", ""))) where
 tri := fun i j hi hj hne => ltP_tri fun e => hne (by
   rw [List.getD, List.getD, List.getElem?_eq_getElem hi, List.getElem?_eq_getElem hj] at e
   exact (List.getElem_inj (h₀ := hi) (h₁ := hj) nd).mp e)
 tr := fun i j k _ _ _ h1 h2 => ltP_tr h1 h2
section
variable {prog : Program} {w : World} {s : Shared} {A : Around} {E : Value → Shared → Prop}
def TwoAt (h : Heap) (a : Addr) (k : Str × Str) : Prop := ∃ o n t u, h.get? a = some o ∧ o.cls = .type "tuple" ∧ o.data = .seq #[.str k.1 t, .str k.2 u] n
theorem ask_two {x y : Addr} {k l : Str × Str} {C : Bool → Shared → Prop} (hx : TwoAt s.heap x k) (hy : TwoAt s.heap y l) (hne : k ≠ l) (q : C (ltP k l) s) : wpAny (model prog w) A (keyLt' (tuples' true) (.ref x) (.ref y)) C E s := by
 obtain ⟨ox, nx, t1, u1, hx, _, dx⟩ := hx
 obtain ⟨oy, ny, t2, u2, hy, _, dy⟩ := hy
 refine kat_lt hx dx hy dy ?_
 unfold ltP at q
 refine kat_cons (wpAny_eqBool_str ?_)
 by_cases e : k.1 = l.1
 · rw [if_pos e] at q
   rw [decide_eq_true e]
   refine kat_yes (kat_cons (wpAny_eqBool_str ?_))
   rw [decide_eq_false (fun z => hne (Prod.ext e z))]
   exact kat_no (kat_one _ _ (lt_str q))
 · rw [if_neg e] at q
   rw [decide_eq_false e]
   exact kat_no (oneLt_str q)
inductive TwosAt (h : Heap) : List Addr → List (Str × Str) → Prop where
 | nil : TwosAt h [] []
 | cons {a : Addr} {k : Str × Str} {as : List Addr} {ks : List (Str × Str)} (x : TwoAt h a k) (r : TwosAt h as ks) : TwosAt h (a :: as) (k :: ks)
theorem TwosAt.keep {h h' : Heap} (kp : ∀ b o, h.get? b = some o → h'.get? b = some o) : ∀ {as : List Addr} {ks : List (Str × Str)}, TwosAt h as ks → TwosAt h' as ks
 | _, _, .nil => .nil
 | _, _, .cons ⟨o, n, t, u, e, r⟩ x => .cons ⟨o, n, t, u, kp _ _ e, r⟩ (x.keep kp)
theorem TwosAt.len {h : Heap} : ∀ {as : List Addr} {ks : List (Str × Str)}, TwosAt h as ks → as.length = ks.length
 | _, _, .nil => rfl
 | _, _, .cons _ r => congrArg (· + 1) r.len
theorem TwosAt.at {h : Heap} : ∀ {as : List Addr} {ks : List (Str × Str)} (i : Nat), TwosAt h as ks → i < as.length → ∃ a, (as.map Value.ref).getD i Value.none = .ref a ∧ TwoAt h a (ks.getD i ("", ""))
 | _, _, i, .nil, hi => absurd hi (Nat.not_lt_zero _)
 | _, _, 0, .cons x _, _ => ⟨_, rfl, x⟩
 | _, _, i + 1, .cons _ r, hi => by
   obtain ⟨a, e, x⟩ := r.at i (by simpa using hi)
   exact ⟨a, by simpa [List.getD] using e, by simpa [List.getD] using x⟩
theorem TwosAt.kats {h : Heap} : ∀ {as : List Addr} {ks : List (Str × Str)}, TwosAt h as ks → ∃ fs : List Value, fs.length = ks.length ∧ (∀ v ∈ fs, ∃ x t, v = .str x t) ∧ KatTups h (as.map Value.ref) fs
 | _, _, .nil => ⟨[], rfl, (fun v hv => nomatch hv), KatTups.nil⟩
 | _, _, .cons ⟨o, n, t, u, e, c, d⟩ r => by
   obtain ⟨fs, h1, h2, h3⟩ := r.kats
   refine ⟨_ :: fs, congrArg (· + 1) h1, fun v hv => ?_, KatTups.cons e c d rfl h3⟩
   rcases List.mem_cons.mp hv with z | z
   · exact ⟨_, _, z⟩
   · exact h2 v z
theorem asks_two {as : List Addr} {ks : List (Str × Str)} (T : TwosAt s.heap as ks) (nd : ks.Nodup) : Asks (as.map Value.ref).length (fun i j => ltP (ks.getD i ("", "")) (ks.getD j ("", ""))) (kas_ask prog w A (tuples' true) (as.map Value.ref)) s := by
 intro i j C hi hj hne q
 rw [List.length_map] at hi hj
 obtain ⟨a, ea, xa⟩ := T.at i hi
 obtain ⟨b, eb, xb⟩ := T.at j hj
 unfold kas_ask
 rw [ea, eb]
 refine ask_two xa xb (fun e => hne ?_) q
 have hi' : i < ks.length := by rw [← T.len]; exact hi
 have hj' : j < ks.length := by rw [← T.len]; exact hj
 rw [List.getD, List.getD, List.getElem?_eq_getElem hi', List.getElem?_eq_getElem hj'] at e
 exact (List.getElem_inj (h₀ := hi') (h₁ := hj') nd).mp e
theorem kind_two {as : List Addr} {ks : List (Str × Str)} {R : SortKind → Shared → Prop} (T : TwosAt s.heap as ks) (h2 : 2 ≤ ks.length) (q : R (tuples' true) s) : wpAny (model prog w) A (keyKind' (as.map Value.ref).toArray) R E s := by
 obtain ⟨fs, h1, hs, kt⟩ := T.kats
 refine kat_kind (T := .type "str") kt (by omega) (fun v hv => ?_) rfl q
 obtain ⟨x, t, rfl⟩ := hs v hv
 exact Looks.of_pure rfl
end
end L2
namespace L2
open PySem PySem.W PySem.Spec PyProof.Rows L3
section
variable {X : Cx}
def rSortT : List V → Hp → VK → Prop := fun xs H Q => ∃ (d : Addr) (kvs : List (List Key × V)) (ks : List (Str × Str)), xs = [.ref d] ∧ H d = some (.dT kvs) ∧ kvs.map (·.1) = ks.map (fun k => [Sum.inr k.1, Sum.inr k.2]) ∧ ks.length < 64 ∧
 ∀ l (L : List (Addr × Str × Str)), H l = none → (L.map (·.2)).Perm ks → (L.map (·.2)).Pairwise (fun a b => ltP a b = true) → (∀ z ∈ L, H z.1 = some (.tup [.str z.2.1, .str z.2.2])) → Q (.ref l) (upd H l (.lst (L.map fun z => .ref z.1)))
theorem two_of {pins : List (Addr × Obj)} {σ : St} {H : Hp} {s : Shared} (I : Inv X pins σ H s) {a : Addr} {k : Str × Str} (h : H a = some (.tup [.str k.1, .str k.2])) : TwoAt s.heap a k := by
 obtain ⟨its, r, ⟨o, e, c, n, d⟩, _⟩ := I.tuple (SqT.of h)
 cases r with
 | cons r1 rr =>
   cases rr with
   | cons r2 r3 =>
     cases r3
     obtain ⟨t, rfl⟩ := r1
     obtain ⟨u, rfl⟩ := r2
     exact ⟨o, n, t, u, e, c, d⟩
theorem twos_of {pins : List (Addr × Obj)} {σ : St} {H : Hp} {s : Shared} (I : Inv X pins σ H s) : ∀ {kvs : List (List Key × V)} {zs : List (List Key × Addr × Value)} {ks : List (Str × Str)}, Paired (fun (p : List Key × V) (q : List Key × Addr × Value) => p.1 = q.1 ∧ H q.2.1 = some (.tup (p.1.map kV)) ∧ RelV p.2 q.2.2) kvs zs →
   kvs.map (·.1) = ks.map (fun k => [Sum.inr k.1, Sum.inr k.2]) → TwosAt s.heap (zs.map (·.2.1)) ks ∧ (∀ i, i < ks.length → H ((zs.map (·.2.1)).getD i 0) = some (.tup [.str (ks.getD i ("", "")).1, .str (ks.getD i ("", "")).2])) ∧ zs.map (·.1) = ks.map (fun k => [Sum.inr k.1, Sum.inr k.2]) := by
 intro kvs zs ks pr
 induction pr generalizing ks with
 | nil =>
   intro e
   cases ks with
   | nil => exact ⟨.nil, (fun i hi => absurd hi (Nat.not_lt_zero _)), rfl⟩
   | cons _ _ => cases e
 | @cons p z kvs zs r rr ih =>
   intro e
   cases ks with
   | nil => cases e
   | cons k ks =>
     simp only [List.map_cons, List.cons.injEq] at e
     obtain ⟨h1, h2, h3⟩ := ih e.2
     have ha : H z.2.1 = some (.tup [.str k.1, .str k.2]) := by
       have := r.2.1
       rw [e.1] at this
       exact this
     refine ⟨.cons (two_of I ha) h1, fun i hi => ?_, ?_⟩
     · cases i with
       | zero => exact ha
       | succ i => simpa [List.getD] using h2 i (by simpa using hi)
     · simp only [List.map_cons, List.cons.injEq]
       exact ⟨r.1.symm.trans e.1, h3⟩
theorem getD_range {α : Type} (xs : List α) (d : α) : (List.range xs.length).map (fun i => xs.getD i d) = xs := by
 apply List.ext_getElem
 · simp
 · intro i h1 h2
   simp [List.getD, h2]
theorem call_sortedT (hc : X.calm = true) : CallR X (.builtin "sorted") rSortT := by
 intro pins s σ H xs us Q I rv h
 obtain ⟨d, kvs, ks, rfl, hd, hks, h64, q⟩ := h
 obtain ⟨u, rfl, ru⟩ := rv.one
 cases ru
 obtain ⟨hz, hsm, zs, pr, o, es, ep, ho, hcl, hdat, hes, hnd⟩ := (show ObjOk X.prog X.w H s.heap d (.dT kvs) from I.hok d _ hd)
 obtain ⟨T, hH, hzk⟩ := twos_of I pr hks
 have hv : es.toList.map (·.key) = (zs.map (·.2.1)).map Value.ref := by
   rw [hes, List.map_map, List.map_map]
   rfl
 have nd : ks.Nodup := by
   rw [hzk] at hnd
   exact List.Pairwise.of_map _ (fun a b h e => h (by rw [e])) hnd
 have hl : ((zs.map (·.2.1)).map Value.ref).length = ks.length := by rw [List.length_map, T.len]
 have O := ord_pairs nd
 rw [← hl] at O
 refine sorted_raw (κ := tuples' true) hsm (I.ok.hd hc) ⟨o, ho, hcl, hdat⟩ hv (by omega) O (fun h2 h' tk kp => ⟨fun R hR => kind_two (s := { s with heap := h', toks := tk }) (T.keep kp) (by omega) hR, asks_two (s := { s with heap := h', toks := tk }) (T.keep kp) nd⟩) fun h' tk D p c PP u kp lD hD => ?_
 rw [hl] at PP u
 have hp : ∀ i ∈ p.toList, i < ks.length := fun i hi => List.mem_range.mp (PP.pm.mem_iff.mp hi)
 have hout : (p.toList.map fun i => ((zs.map (·.2.1)).map Value.ref).getD i Value.none) = (p.toList.map fun i => ((zs.map (·.2.1)).getD i 0, ks.getD i ("", ""))).map fun z => Value.ref z.1 := by
   rw [show ∀ (l : List Nat) (f : Nat → Addr × Str × Str), (l.map f).map (fun z => Value.ref z.1) = l.map (fun i => Value.ref (f i).1) from fun l f => by rw [List.map_map]; rfl]
   refine List.map_congr_left fun i hi => ?_
   have h1 : i < (zs.map (·.2.1)).length := by rw [T.len]; exact hp i hi
   show ((zs.map (·.2.1)).map Value.ref).getD i Value.none = Value.ref ((zs.map (·.2.1)).getD i 0)
   rw [List.getD, List.getD, List.getElem?_map, List.getElem?_eq_getElem h1]
   rfl
 have hm2 : (p.toList.map fun i => ((zs.map (·.2.1)).getD i 0, ks.getD i ("", ""))).map (·.2) = p.toList.map fun i => ks.getD i ("", "") := by
   rw [List.map_map]
   rfl
 rw [hout] at hD
 refine ⟨.ref D, _, I.laid (a := D) (o := .lst ((p.toList.map fun i => ((zs.map (·.2.1)).getD i 0, ks.getD i ("", ""))).map fun z => V.ref z.1)) (t' := tk) kp lD ⟨?_, (p.toList.map fun i => ((zs.map (·.2.1)).getD i 0, ks.getD i ("", ""))).map (fun z => Value.ref z.1), c, ?_, hD⟩, rfl, q D _ (I.hok.fresh lD) ?_ ?_ ?_⟩
 · rw [List.length_map, List.length_map, Array.length_toList, PP.size]
   have : 64 ≤ sizeLine := by decide
   omega
 · generalize (p.toList.map fun i => ((zs.map (·.2.1)).getD i 0, ks.getD i ("", ""))) = M
   induction M with
   | nil => exact .nil
   | cons z M ih => exact .cons rfl ih
 · rw [hm2]
   have := PP.pm.map (fun i => ks.getD i ("", ""))
   rw [getD_range] at this
   exact this
 · rw [hm2, List.pairwise_iff_getElem]
   intro i j hi hj hij
   simp only [List.length_map, Array.length_toList] at hi hj; simp only [List.getElem_map, Array.getElem_toList]
   have := u i j hij (by rw [PP.size] at hj; exact hj)
   rw [gD hi, gD hj] at this
   exact this
 · intro z hz
   obtain ⟨i, hi, rfl⟩ := List.mem_map.mp hz
   exact hH i (hp i hi)
end
end L2
namespace L2
open PySem PySem.Spec PyProof.Rows L3
section
variable {X : Cx}
theorem vals_intD : ∀ {ns : List Int} {its : List Value}, Vals (ns.map V.int) its → ∀ (j : Nat) (h : j < its.length), ∃ t, its[j] = .int (ns.getD j 0) t
 | [], _, .nil, j, h => absurd h (Nat.not_lt_zero _)
 | n :: ns, _, .cons r rr, 0, _ => by
   obtain ⟨t, rfl⟩ := r
   exact ⟨t, rfl⟩
 | n :: ns, _, .cons r rr, j + 1, h => by
   obtain ⟨t, e⟩ := vals_intD rr j (by simpa using h)
   exact ⟨t, by simpa [List.getD] using e⟩
theorem all_eq (ns ms : List Int) : ((List.range (min ns.length ms.length)).all (fun j => decide (ns.getD j 0 = ms.getD j 0)) && ns.length == ms.length) = decide (ns = ms) := by
 by_cases e : ns = ms
 · subst e
   simp
 · rw [decide_eq_false e]
   by_cases hl : ns.length = ms.length
   · simp only [hl, beq_self_eq_true, Bool.and_true, Nat.min_self]
     rw [Bool.eq_false_iff]
     intro h
     refine e (List.ext_getElem hl fun i h1 h2 => ?_)
     have := List.all_eq_true.mp h i (List.mem_range.mpr h2)
     simpa [List.getD, h1, h2] using this
   · simp [hl]
theorem op_neI {cm : Bool} {k : Nat} (hr : Room cm k X.A) : OpR X (compareOp .NotEq) (fun x y H Q => ∃ (a b : Addr) (ns ms : List Int), x = .ref a ∧ y = .ref b ∧ SqT X.K H a (ns.map V.int) ∧ SqT X.K H b (ms.map V.int) ∧ Q (.bl (!decide (ns = ms))) H) := by
 intro pins s σ H x y v u Q I rx ry h
 obtain ⟨a, b, ns, ms, rfl, rfl, ha, hb, q⟩ := h
 cases rx
 cases ry
 obtain ⟨its, r, pl, hz⟩ := I.tuple ha
 obtain ⟨its2, r2, pl2, hz2⟩ := I.tuple hb
 have l1 := r.length
 have l2 := r2.length
 rw [List.length_map] at l1 l2
 have hu : X.A.units < cLine := by have := hr.un; omega
 refine SeqAt.RcNeAt.tuples (e := fun j => decide (ns.getD j 0 = ms.getD j 0)) (show s.heap.IsTuple a its.toArray from pl) (show s.heap.IsTuple b its2.toArray from pl2) hu (fun j h1 h2 => ?_) _ _ _ _ ?_
 · simp only [List.size_toArray] at h1 h2
   obtain ⟨t, e1⟩ := vals_intD r j h1
   obtain ⟨t2, e2⟩ := vals_intD r2 j h2
   simp only [List.getElem_toArray]
   rw [e1, e2]
   exact SeqAt.EqAt.int_int _ _ _ _
 · simp only [List.size_toArray]
   rw [← l1, ← l2, all_eq]
   exact ⟨.bl _, H, I, rfl, q⟩
end
end L2
namespace L2
open PySem PySem.Spec PyProof.Rows L3
theorem ltP_uniq : ∀ {xs ys : List (Str × Str)}, xs.Perm ys → xs.Pairwise (fun a b => ltP a b = true) → ys.Pairwise (fun a b => ltP a b = true) → xs = ys
 | [], ys, p, _, _ => p.nil_eq
 | x :: xs, [], p, _, _ => absurd p.length_eq (by simp)
 | x :: xs, y :: ys, p, h1, h2 => by
   have a1 := List.pairwise_cons.mp h1
   have a2 := List.pairwise_cons.mp h2
   have e : x = y := by
     rcases List.mem_cons.mp (p.mem_iff.mp List.mem_cons_self) with z | z
     · exact z
     · rcases List.mem_cons.mp (p.mem_iff.mpr (List.mem_cons_self (a := y) (l := ys))) with z2 | z2
       · exact z2.symm
       · have b1 := a1.1 y z2
         have b2 := a2.1 x z
         have := ltP_tr b1 b2
         have hne : x ≠ y := fun e => by
           subst e
           unfold ltP at b1
           rw [if_pos rfl] at b1
           exact ltS_ne b1 rfl
         rw [ltP_tri hne, b2] at b1
         cases b1
   subst e
   rw [ltP_uniq (List.perm_cons x |>.mp p) a1.2 a2.2]
end L2
namespace L2
open PySem PySem.Spec PyProof.Rows L3
section
variable {X : Cx}
end
end L2
namespace L2
open PySem PySem.Spec PyProof.Rows L3
section
variable {X : Cx}
end
theorem sl_tupC {X : Cx} {scope : Scope} {cl : List (Str × Addr)} {C : Addr} {s2 : Shared} {H2 : Hp} {fp : List Addr} {N' : List Str} {xe : Value → Shared → Prop} : SlR (X.inC scope cl C s2 H2 fp N' xe) (rSlT X.K) := sl_tup (X := X.inC scope cl C s2 H2 fp N' xe)
theorem op_neIC {X : Cx} {scope : Scope} {cl : List (Str × Addr)} {C : Addr} {s2 : Shared} {H2 : Hp} {fp : List Addr} {N' : List Str} {xe : Value → Shared → Prop} {cm : Bool} {k : Nat} (hr : Room cm k X.A) :
   OpR (X.inC scope cl C s2 H2 fp N' xe) (compareOp .NotEq) (fun x y H Q => ∃ (a b : Addr) (ns ms : List Int), x = .ref a ∧ y = .ref b ∧ SqT X.K H a (ns.map V.int) ∧ SqT X.K H b (ms.map V.int) ∧ Q (.bl (!decide (ns = ms))) H) := op_neI (X := X.inC scope cl C s2 H2 fp N' xe) hr
theorem call_list_ofI {X : Cx} {pn : List (Addr × Obj)} {E : Value → Shared → Prop} : CallR (into X pn E) (.type "list") (fun xs H Q => ∃ p ys, xs = [.ref p] ∧ (SqL X.K H p ys ∨ SqT X.K H p ys) ∧ ∀ l, H l = none → Q (.ref l) (upd H l (.lst ys))) := call_list_of (X := into X pn E)
end L2
namespace L2
open PySem PySem.Spec PyProof.Rows L3
def ItE (K : PySem.W.Frag) (a : Addr) : It :=
 ⟨fun i H => ∃ xs x, SqL K H a xs ∧ xs[i]? = some x, fun i H x H' => ∃ t y, x = .ref t ∧ H t = none ∧ H' = upd H t (.tup [.int (i : Int), y]) ∧ ∀ xs, SqL K H a xs → xs[i]? = some y, fun i H => ∃ xs, SqL K H a xs ∧ xs.length ≤ i⟩
theorem turn_enum {P : Program} {w : World} {K : PySem.W.Frag} {elts : List Expr} {x1} {pos : Pos} (a e it : Addr) (hne : e ≠ it) : Turn P w K (.Tuple elts x1 pos) (ItE K a) [e, it] e (fun i h => ∃ old, IsEnum h e it (i : Int) old ∧ h.IsListIter it a i) where
 mem := by simp
 obj := fun i h st b hb => by
   obtain ⟨old, he, o, ho, hc, hd⟩ := st
   rcases List.mem_cons.mp hb with z | z
   · subst z
     exact ⟨_, he, fun v z => by
       have z' : Data.fields _ = Data.cell v := z
       cases z'⟩
   · rw [List.mem_singleton.mp z]
     exact ⟨o, ho, fun v z => by rw [hd] at z; cases z⟩
 keep := fun i h h' st k => by
   obtain ⟨old, he, hi⟩ := st
   exact ⟨old, k e (by simp) _ he, hi.at fun o q => k it (by simp) o q⟩
 item := by
   intro X hP hw hK hc i pins s σ H E I hf st hg
   subst hP hw hK
   obtain ⟨xs, x, hq, hx⟩ := hg
   obtain ⟨its, rv, p, hz⟩ := I.list hq
   obtain ⟨u, hu, ru⟩ := rv.get hx
   obtain ⟨old, he, hi⟩ := st
   obtain ⟨f0, f1, f2, f3, f4, f5⟩ := hf it (by simp)
   obtain ⟨g0, g1, g2, g3, g4, g5⟩ := hf e (by simp)
   refine wpAny_pyNext_enum_item he hi p.isList (x := u) (by simpa using hu) hne fun h1 heo hit1 ht1 hz1 hk1 => ?_
   refine ⟨_, rfl, wpAny_letOwnedTupleGo_enum heo fun h2 he2 hs2 => ?_⟩
   replace hs2 : Heap.SameBut e h1 h2 := hs2
   have hit2 : h2.IsListIter it a (i + 1) := hit1.at fun o q => (hs2.2 it (Ne.symm hne)).trans q
   obtain ⟨oi, hoi, _, _⟩ := id hi
   obtain ⟨oi2, hoi2, hic2, hid2⟩ := id hit2
   have le : e < s.heap.objs.size := Heap.lt_size he
   have li : it < s.heap.objs.size := Heap.lt_size hoi
   have gA : (s.heap.update it (fun _ => oi2)).get? it = some oi2 := Heap.get?_update_self (fun _ => oi2) hoi (Obj.isFreed_of_fields hid2)
   have oA : ∀ b, b ≠ it → (s.heap.update it (fun _ => oi2)).get? b = s.heap.get? b := fun b hb => Heap.get?_update_other _ _ (Ne.symm hb)
   have IA : Inv X pins σ H { s with heap := s.heap.update it (fun _ => oi2), toks := s.toks } := I.turned (t' := s.toks) (it := it) (fun b o hb q => (oA b hb).trans q) f0 f1 f3 f4 f5
   generalize hA : s.heap.update it (fun _ => oi2) = HA at gA oA IA
   have zA : HA.objs.size = s.heap.objs.size := by rw [← hA]; exact Heap.size_after_update ..
   obtain ⟨oe2, hoe2⟩ : ∃ o, h2.get? e = some o := ⟨_, he2⟩
   have hfe : oe2.isFreed = false := by
     have : oe2 = _ := Option.some.inj (hoe2.symm.trans he2)
     rw [this]
     exact Obj.isFreed_of_fields rfl
   have gB : (HA.update e (fun _ => oe2)).get? e = some oe2 := Heap.get?_update_self (fun _ => oe2) ((oA e hne).trans he) hfe
   have oB : ∀ b, b ≠ e → (HA.update e (fun _ => oe2)).get? b = HA.get? b := fun b hb => Heap.get?_update_other _ _ (Ne.symm hb)
   have IB := IA.turned (t' := s.toks) (it := e) (h' := HA.update e (fun _ => oe2)) (fun b o hb q => (oB b hb).trans q) g0 g1 g3 g4 g5
   have zB : (HA.update e (fun _ => oe2)).objs.size = s.heap.objs.size := by rw [← zA]; exact Heap.size_after_update ..
   generalize HA.update e (fun _ => oe2) = HB at gB oB IB zB
   have kB : ∀ b o, HB.get? b = some o → h2.get? b = some o := fun b o q => by
     by_cases be : b = e
     · subst be
       rw [gB] at q
       cases q
       exact hoe2
     · rw [oB b be] at q
       by_cases bi : b = it
       · subst bi
         rw [gA] at q
         cases q
         exact hoi2
       · rw [oA b bi] at q
         exact (hs2.2 b be).trans (hk1 b o be bi q)
   have hT : h2.get? s.heap.objs.size = some { cls := .type "tuple", data := .seq #[.int i s.toks, u] } := (hs2.2 _ (Nat.ne_of_gt le)).trans ht1
   have IC := IB.laid (a := s.heap.objs.size) (o := .tup [.int (i : Int), x]) (t' := s.toks + 1) (h' := h2) kB (Nat.le_of_eq zB) ⟨(by show 2 ≤ sizeLine; decide), [.int i s.toks, u], .cons ⟨s.toks, rfl⟩ (.cons ru .nil), ⟨_, hT, rfl, _, rfl⟩⟩
   refine ⟨.ref s.heap.objs.size, _, IC, rfl, ⟨_, x, rfl, I.hok.fresh (Nat.le_refl _), rfl, fun ys hy => by rw [I.list_inj hy hq]; exact hx⟩, ⟨_, he2, hit2⟩, fun b hb => ?_⟩
   have bl : b < s.heap.objs.size := by
     rcases List.mem_cons.mp hb with z | z
     · rw [z]; exact le
     · rw [List.mem_singleton.mp z]; exact li
   rw [upd_ne (Nat.ne_of_lt bl)]
   exact (hf b hb).1
 done := by
   intro X hP hw hK hc i pins s σ H E I hf st hg
   subst hP hw hK
   obtain ⟨xs, hq, hx⟩ := hg
   obtain ⟨its, rv, p, hz⟩ := I.list hq
   obtain ⟨old, he, hi⟩ := st
   obtain ⟨f0, f1, f2, f3, f4, f5⟩ := hf it (by simp)
   have hl := rv.length
   exact wpAny_pyNext_enum_end (I.ok.hd hc) he hi p.isList (by simp; omega) fun h' eb => ⟨rfl, I.turned (t' := s.toks) (fun b o hb e => eb b o hb e) f0 f1 f3 f4 f5⟩
 self := fun _ _ _ _ _ st h => by
   obtain ⟨old, he, hi⟩ := st
   exact wpAny_pyIter_enum he h
section
variable {X : Cx}
def iEnum (K : PySem.W.Frag) (ta : TA) : TI := fun σ H R => ta σ H fun vs H1 => ∃ a, vs = [.ref a] ∧ (∃ xs, SqL K H1 a xs) ∧ R (ItE K a) H1
theorem pi_enum {l : Expr} {elts : List Expr} {x1} {tp : Pos} {ta : TA} {p pos : Pos} (hg : Gl X "enumerate") (hm : X.mg "enumerate" = none) (ha : PA X [l] ta) (hs : starEach [l] X.env = [(false, eval l X.env)] := by rfl) :
   PI X (.Tuple elts x1 tp) (.Call (.Name "enumerate" p) [l] [] pos) (iEnum X.K ta) := by
 intro pins s σ H R I h
 refine Call_ (ld_blt I hg hm boot_enumerate (PyProof.Rows.callWith_type1 (thn (ha pos pins s σ H _ I h) fun us s1 ⟨vs, H1, I1, r1, q1⟩ => ?_) hs rfl))
 obtain ⟨a, e, ⟨xs, hq⟩, q⟩ := q1
 subst e
 cases r1 with
 | cons r rr =>
   cases rr
   cases r
   obtain ⟨its, rv, p, hz⟩ := I1.list hq
   refine call_enumerate_list p.isList fun h' he hit hsz hk => ?_
   refine wpAny_pyIter_enum he ?_
   refine ⟨s1.heap.objs.size + 1, [s1.heap.objs.size + 1, s1.heap.objs.size], _, _, H1, rfl, I1.kept (t' := s1.toks) hk, turn_enum a _ _ (Nat.succ_ne_self _), ⟨.none, he, hit⟩, fun b hb => ?_, q⟩
   rcases List.mem_cons.mp hb with z | z
   · rw [z]
     exact I1.fpOk (Nat.le_succ _) (I1.hok.fresh (Nat.le_succ _))
   · rw [List.mem_singleton.mp z]
     exact I1.fpOk (Nat.le_refl _) (I1.hok.fresh (Nat.le_refl _))
theorem for_enum {K : PySem.W.Frag} {a : Addr} {xs : List V} {g : TG} {tb : TS} {D : Ends} {σ : St} {H : Hp} (Pv : Nat → St → Hp → Prop) (h0 : Pv 0 σ H) (hl : ∀ i σ H, i ≤ xs.length → Pv i σ H → SqL K H a xs)
   (hs : ∀ i x σ H t, xs[i]? = some x → Pv i σ H → H t = none → g (.ref t) σ (upd H t (.tup [.int (i : Int), x])) fun σ2 H2 => tb { D with nx := Pv (i + 1), ct := Pv (i + 1), bk := D.nx } σ2 H2) (hd : ∀ σ H, Pv xs.length σ H → D.nx σ H) :
   ∃ W : Nat → Nat → St → Hp → Prop, (∃ m, W 0 m σ H) ∧ ∀ i m σ H, W i m σ H →
     ((ItE K a).stop i H ∧ D.nx σ H) ∨ ((ItE K a).go i H ∧ ∃ N : St → Hp → Prop, (∀ σ' H', N σ' H' → ∃ m', m' < m ∧ W (i + 1) m' σ' H') ∧ ∀ x H', (ItE K a).yld i H x H' → g x σ H' fun σ2 H2 => tb { D with nx := N, ct := N, bk := D.nx } σ2 H2) := by
 refine ⟨fun i m σ H => m = xs.length - i ∧ i ≤ xs.length ∧ Pv i σ H, ⟨xs.length, by simp, Nat.zero_le _, h0⟩, ?_⟩
 rintro i m σ H ⟨rfl, hi, p⟩
 have q := hl i σ H hi p
 by_cases hlt : i < xs.length
 · refine .inr ⟨⟨xs, xs[i], q, by simp [hlt]⟩, Pv (i + 1), fun σ' H' p' => ⟨xs.length - (i + 1), by omega, rfl, hlt, p'⟩, fun x H' y => ?_⟩
   obtain ⟨t, y, rfl, ht, rfl, hy⟩ := y
   exact hs i y σ H t (hy xs q) p ht
 · have e : i = xs.length := by omega
   subst e
   exact .inl ⟨⟨xs, q, Nat.le_refl _⟩, hd σ H p⟩
def eqP (K : PySem.W.Frag) (H : Hp) (x y : V) : Prop := ∃ a b xs, x = .ref a ∧ y = .ref b ∧ SqL K H a xs ∧ SqL K H b xs ∧ ∀ z ∈ xs, eqPl z = true
theorem Inv.eqP {pins : List (Addr × Obj)} {σ : St} {H : Hp} {s : Shared} {x y : V} {v u : Value} {A : Around} (I : Inv X pins σ H s) (hu : A.units < cLine) (e : eqP X.K H x y) (rx : RelV x v) (ry : RelV y u) : SeqAt.EqAt A s v u true := by
 obtain ⟨a, b, xs, rfl, rfl, ha, hb, hp⟩ := e
 cases rx
 cases ry
 by_cases hab : a = b
 · subst hab
   exact SeqAt.EqAt.same _
 obtain ⟨its, r, pl, hz⟩ := I.list ha
 obtain ⟨its2, r2, pl2, hz2⟩ := I.list hb
 have l1 := r.length
 have l2 := r2.length
 have h := SeqAt.RcAt.lists (A := A) (e := fun _ => true) pl.isList pl2.isList (by simp only [List.size_toArray]; omega) hu (fun j h1 h2 => by
   simp only [List.size_toArray] at h1 h2
   obtain ⟨x, e, rx⟩ := vals_at r j h1
   obtain ⟨x2, e2, rx2⟩ := vals_at r2 j h2
   rw [e] at e2
   cases e2
   simp only [List.getElem_toArray]
   exact eqAt_self (hp x (List.mem_of_getElem? e)) rx rx2)
 rw [show ((List.range its.toArray.size).all fun _ => true) = true by simp] at h
 exact SeqAt.EqAt.of_refs hab h
end
end L2
namespace PySem.W
open PySem
section
variable {prog : Program} {w : World} {A : Around} {E : Value → Shared → Prop} {s : Shared}
theorem next_tup {it t : Addr} {i : Nat} {its : Array Value} {x : Value} {Q : Value → Shared → Prop} (hit : s.heap.IsTupleIter it t i) (ht : s.heap.IsTuple t its) (hx : its[i]? = some x)
   (hQ : ∀ h', h'.IsTupleIter it t (i + 1) → Heap.SameBut it s.heap h' → Q x { s with heap := h' }) : wpAny (model prog w) A (Builtin.SmallTypes.nextOf (.ref it)) Q E s := by
 obtain ⟨oi, hoi, hci, hdi⟩ := id hit
 obtain ⟨ot, hot, _, nt, hdt⟩ := ht
 have g : ∀ (Q' : Value → Shared → Prop), (∀ h', h'.IsTupleIter it t (i + 1) → Heap.SameBut it s.heap h' → Q' x { s with heap := h' }) → wpAny (model prog w) A.in1 (Builtin.«tuple_iterator.__next__» ⟨[.ref it], []⟩) (fun fin s' => ∃ v, fin = .done (.ret v) ∧ Q' v s') E s := fun Q' hQ' => by
   show wpAny _ _ (field (.ref it) 0 >>= _) _ _ s
   refine wpAny_bind (wpAny_field hoi hdi (x := .ref t) rfl ?_)
   show wpAny _ _ (if (Value.ref t == Value.none) = true then _ else _) _ _ s
   rw [if_neg (by simp)]
   show wpAny _ _ (field (.ref it) 1 >>= _) _ _ s
   refine wpAny_bind (wpAny_field hoi hdi (x := .int i 0) rfl ?_)
   show wpAny _ _ (seqItems? (.ref t) >>= _) _ _ s
   refine wpAny_bind (wpAny_seqItems hot hdt ?_)
   simp only [Int.toNat_natCast, hx]
   refine wpAny_bind (wpAny_setField hoi hdi (by simp) (wpAny_pure ⟨x, rfl, hQ' _ ?_ (Heap.SameBut.update ..)⟩))
   refine ⟨_, Heap.get?_update_self _ hoi (Obj.isFreed_of_fields (Obj.data_mapFields hdi _)), (Obj.cls_mapFields ..).trans hci, ?_⟩
   rw [Obj.data_mapFields hdi]
   simp [rawInt]
 unfold Builtin.SmallTypes.nextOf
 exact wpAny_bind (wpAny_callSpecial?_slot (name := Str.ofString "__next__") hit.typeIs F.slot_tuple_iterator_next (wpAny_call_entry F.slot_tuple_iterator_next hit.typeIs F.entry_tuple_iterator_next (g _ fun h' a b => wpAny_pure (hQ h' a b)) (F.args_tuple_iterator_next_1 _)))
theorem next_tup_end {it t : Addr} {i : Nat} {its : Array Value} {Q : Value → Shared → Prop} (hh : A.handled = none) (hit : s.heap.IsTupleIter it t i) (ht : s.heap.IsTuple t its) (hx : its[i]? = none)
   (hE : ∀ h' e, Heap.ExtBut it s.heap h' → (∃ o, h'.get? e = some o ∧ o.cls = .type "StopIteration") → E (.ref e) { s with heap := h' }) : wpAny (model prog w) A (Builtin.SmallTypes.nextOf (.ref it)) Q E s := by
 obtain ⟨oi, hoi, hci, hdi⟩ := id hit
 obtain ⟨ot, hot, _, nt, hdt⟩ := ht
 unfold Builtin.SmallTypes.nextOf
 refine wpAny_bind (wpAny_callSpecial?_slot (name := Str.ofString "__next__") hit.typeIs F.slot_tuple_iterator_next (wpAny_call_entry F.slot_tuple_iterator_next hit.typeIs F.entry_tuple_iterator_next ?_ (F.args_tuple_iterator_next_1 _)))
 show wpAny _ _ (field (.ref it) 0 >>= _) _ _ s
 refine wpAny_bind (wpAny_field hoi hdi (x := .ref t) rfl ?_)
 show wpAny _ _ (if (Value.ref t == Value.none) = true then _ else _) _ _ s
 rw [if_neg (by simp)]
 show wpAny _ _ (field (.ref it) 1 >>= _) _ _ s
 refine wpAny_bind (wpAny_field hoi hdi (x := .int i 0) rfl ?_)
 show wpAny _ _ (seqItems? (.ref t) >>= _) _ _ s
 refine wpAny_bind (wpAny_seqItems hot hdt ?_)
 simp only [Int.toNat_natCast, hx]
 refine wpAny_bind (wpAny_rule (wpAny_bind (wpAny_setField hoi hdi (by simp) ?_)))
 show wpAny _ _ (newExc (.type "StopIteration") [] >>= _) _ _ _
 refine wpAny_bind ?_
 simp only [newExc, newTuple]
 refine wpAny_bind (wpAny_newObj_type ?_ (by size_fits))
 refine wpAny_bind (m := firstArgMember _ _) (wpAny_of_eq (a := Value.none) (by first | rfl | (simp only [firstArgMember]; rfl)) ?_)
 refine wpAny_newObj_type ?_ (by size_fits)
 simp only [raiseNew]
 refine wpAny_bind (wpAny_handled ?_)
 first | rw [show A.in1.handled = none from hh] | rw [hh]
 exact wpAny_bind (wpAny_pure (wpAny_throw (hE _ _ (((Heap.SameBut.update ..).extBut.push _).push _) ⟨_, Heap.get?_push_size _ rfl, rfl⟩)))
end
theorem drawsTup {prog : Program} {w : World} {A : Around} (hh : A.handled = none) (it l : Addr) (hne : l ≠ it) (its : Array Value) :
   Draws prog w A it [it, l] its.size (fun i v => its[i]? = some v) (fun i h => h.IsTupleIter it l i ∧ h.IsTuple l its) where
 live := fun _ _ st => let ⟨o, ho, _⟩ := st.1; ⟨o, ho⟩
 frame := fun _ _ _ st hk => by
   obtain ⟨⟨o, ho, r⟩, o2, ho2, r2⟩ := st
   exact ⟨⟨o, hk it (by simp) o ho, r⟩, o2, hk l (by simp) o2 ho2, r2⟩
 item := fun i s Q E hi st hQ => by
   refine next_tup st.1 st.2 (x := its[i]) (by simp [hi]) fun h' hit' hs' => ?_
   exact hQ _ h' s.toks (by simp [hi]) ⟨hit', st.2.extBut hs'.extBut hne⟩ hs'
 done := fun s Q E st hE => next_tup_end hh st.1 st.2 (by simp) hE
theorem new_enumT (l : Addr) (its : Array Value) (n : Nat) (dct : Option Addr) (sl : Array (Option Value)) :
   Meets (Builtin.«enumerate.__new__» ⟨[.type "enumerate", .ref l], []⟩) (fun _ R s => s.heap.get? l = some { cls := .type "tuple", dict := dct, data := .seq its n, slots := sl } ∧
     R (.ok (.ret (.ref (s.heap.push { cls := .type "tuple_iterator", data := .fields #[.ref l, .int 0 0] }).objs.size)))
       { s with heap := (s.heap.push { cls := .type "tuple_iterator", data := .fields #[.ref l, .int 0 0] }).push { cls := .type "enumerate", data := .fields #[.none, .bool false, .ref s.heap.objs.size, rawInt 0, .none, .none] } }) :=
 .of_wp fun prog w A R s h => by
   obtain ⟨hp, g, d, tk, os⟩ := s
   obtain ⟨hl, h⟩ := h
   have hsub := sub_enumerate
   have hL : Heap.IsTuple (Shared.heap ⟨hp, g, d, tk, os⟩) l its := ⟨_, hl, rfl, n, rfl⟩
   wp_walk using AutoSeq1.wpAny_loadPart' hl
   refine wpAny_stack_any fun st => wpAny_pure ?_
   split
   · rename_i c _ _ _ _ _
     cases (c == Value.type "enumerate") <;> (wp_walk using AutoSeq1.wpAny_loadPart' hl, wpAny_pyIter_tuple hL; exact ⟨_, rfl, h⟩)
   · wp_walk using AutoSeq1.wpAny_loadPart' hl, wpAny_pyIter_tuple hL
     exact ⟨_, rfl, h⟩
theorem call_enumT {prog : Program} {w : World} {A : Around} {E : Value → Shared → Prop} {s : Shared} {l : Addr} {its : Array Value} {Q : Value → Shared → Prop} (hL : s.heap.IsTuple l its)
   (h : ∀ h', IsEnum h' (s.heap.objs.size + 1) s.heap.objs.size 0 .none → h'.IsTupleIter s.heap.objs.size l 0 → h'.objs.size = s.heap.objs.size + 2 → (∀ b o, s.heap.get? b = some o → h'.get? b = some o) → Q (.ref (s.heap.objs.size + 1)) { s with heap := h' }) :
   wpAny (model prog w) A (call (.type "enumerate") [.ref l]) Q E s := by
 obtain ⟨⟨c, dct, dt, sl⟩, hl, hc, n, hd⟩ := hL
 replace hc : c = .type "tuple" := hc
 replace hd : dt = .seq its n := hd
 subst hc hd
 refine callType_new F.called_enumerate (by decide) (F.typeCall_enumerate_1 _) (F.newCall_enumerate_1 _) (fun obj => F.args_object_init_2 obj _) F.entry_enumerate_new (new_enumT l its n dct sl) ⟨hl, ?_⟩
 have hz : (s.heap.push { cls := .type "tuple_iterator", data := .fields #[.ref l, .int 0 0] }).objs.size = s.heap.objs.size + 1 := Heap.size_push ..
 show _ ∧ _
 rw [hz]
 have he : IsEnum ((s.heap.push { cls := .type "tuple_iterator", data := .fields #[.ref l, .int 0 0] }).push { cls := .type "enumerate", data := .fields #[.none, .bool false, .ref s.heap.objs.size, rawInt 0, .none, .none] }) (s.heap.objs.size + 1) s.heap.objs.size 0 .none := by
   have := Heap.get?_push_size (s.heap.push { cls := .type "tuple_iterator", data := .fields #[.ref l, .int 0 0] }) (o := { cls := .type "enumerate", data := .fields #[.none, .bool false, .ref s.heap.objs.size, rawInt 0, .none, .none] }) rfl
   rw [hz] at this
   exact this
 exact ⟨⟨_, he, rfl⟩, h _ he ⟨_, Heap.get?_push_of_some _ (Heap.get?_push_size _ rfl), rfl, rfl⟩ (by rw [Heap.size_push, hz]) fun b o x => Heap.get?_push_of_some _ (Heap.get?_push_of_some _ x)⟩
end PySem.W
namespace L2
open PySem PySem.W PySem.Spec PyProof.Rows L3
def ItU (K : PySem.W.Frag) (a : Addr) : It :=
 ⟨fun i H => ∃ xs x, SqT K H a xs ∧ xs[i]? = some x, fun i H x H' => ∃ t y, x = .ref t ∧ H t = none ∧ H' = upd H t (.tup [.int (i : Int), y]) ∧ ∀ xs, SqT K H a xs → xs[i]? = some y, fun i H => ∃ xs, SqT K H a xs ∧ xs.length ≤ i⟩
theorem turn_enumT {P : Program} {w : World} {K : PySem.W.Frag} {elts : List Expr} {x1} {pos : Pos} (a e it : Addr) (hne : e ≠ it) : Turn P w K (.Tuple elts x1 pos) (ItU K a) [e, it] e (fun i h => ∃ old, IsEnum h e it (i : Int) old ∧ h.IsTupleIter it a i) where
 mem := by simp
 obj := fun i h st b hb => by
   obtain ⟨old, he, o, ho, hc, hd⟩ := st
   rcases List.mem_cons.mp hb with z | z
   · subst z
     exact ⟨_, he, fun v z => by
       have z' : Data.fields _ = Data.cell v := z
       cases z'⟩
   · rw [List.mem_singleton.mp z]
     exact ⟨o, ho, fun v z => by rw [hd] at z; cases z⟩
 keep := fun i h h' st k => by
   obtain ⟨old, he, o, ho, r⟩ := st
   exact ⟨old, k e (by simp) _ he, o, k it (by simp) o ho, r⟩
 item := by
   intro X hP hw hK hc i pins s σ H E I hf st hg
   subst hP hw hK
   obtain ⟨xs, x, hq, hx⟩ := hg
   obtain ⟨its, rv, p, hz⟩ := I.tuple hq
   obtain ⟨u, hu, ru⟩ := rv.get hx
   obtain ⟨old, he, hi⟩ := st
   obtain ⟨f0, f1, f2, f3, f4, f5⟩ := hf it (by simp)
   obtain ⟨g0, g1, g2, g3, g4, g5⟩ := hf e (by simp)
   obtain ⟨oi, hoi, _, _⟩ := id hi
   obtain ⟨ol, hol, _⟩ := (show s.heap.IsTuple a its.toArray from p)
   have le : e < s.heap.objs.size := Heap.lt_size he
   have li : it < s.heap.objs.size := Heap.lt_size hoi
   have nai : a ≠ it := fun z => by
     obtain ⟨o2, ho2, hc2, hd2⟩ := id hi
     obtain ⟨o3, ho3, hc3, _⟩ := (show s.heap.IsTuple a its.toArray from p)
     rw [z, ho2] at ho3
     cases ho3
     rw [hc2] at hc3
     exact absurd hc3 (by decide)
   have nae : a ≠ e := fun z => by
     obtain ⟨o3, ho3, hc3, _⟩ := (show s.heap.IsTuple a its.toArray from p)
     rw [z, he] at ho3
     cases ho3
     have hc4 : Value.type "enumerate" = Value.type "tuple" := hc3
     exact absurd hc4 (by decide)
   have hlt : i < its.toArray.size := by
     have := (List.getElem?_eq_some_iff.mp hu).1
     simpa using this
   refine wpAny_pyNext_enum_itemD (drawsTup (A := X.A.in1) (I.ok.hd hc) it a nai its.toArray) he ⟨hi, p⟩ hlt hne (by simp [hne, Ne.symm nae]) fun x' h1 tk hP ho1 hs1 ht1 hz1 hk1 => ?_
   have hxx : x' = u := by
     have a1 : its.toArray[i]? = some u := by simpa using hu
     rw [a1] at hP
     exact (Option.some.inj hP).symm
   subst hxx
   refine ⟨_, rfl, wpAny_letOwnedTupleGo_enum ho1 fun h2 he2 hs2 => ?_⟩
   replace hs2 : Heap.SameBut e h1 h2 := hs2
   have hit2 : h2.IsTupleIter it a (i + 1) := by
     obtain ⟨o, ho, r⟩ := hs1.1
     exact ⟨o, (hs2.2 it (Ne.symm hne)).trans ho, r⟩
   obtain ⟨oi2, hoi2, hic2, hid2⟩ := id hit2
   have gA : (s.heap.update it (fun _ => oi2)).get? it = some oi2 := Heap.get?_update_self (fun _ => oi2) hoi (Obj.isFreed_of_fields hid2)
   have oA : ∀ b, b ≠ it → (s.heap.update it (fun _ => oi2)).get? b = s.heap.get? b := fun b hb => Heap.get?_update_other _ _ (Ne.symm hb)
   have IA : Inv X pins σ H { s with heap := s.heap.update it (fun _ => oi2), toks := s.toks } := I.turned (t' := s.toks) (it := it) (fun b o hb q => (oA b hb).trans q) f0 f1 f3 f4 f5
   generalize hA : s.heap.update it (fun _ => oi2) = HA at gA oA IA
   have zA : HA.objs.size = s.heap.objs.size := by rw [← hA]; exact Heap.size_after_update ..
   obtain ⟨oe2, hoe2⟩ : ∃ o, h2.get? e = some o := ⟨_, he2⟩
   have hfe : oe2.isFreed = false := by
     have : oe2 = _ := Option.some.inj (hoe2.symm.trans he2)
     rw [this]
     exact Obj.isFreed_of_fields rfl
   have gB : (HA.update e (fun _ => oe2)).get? e = some oe2 := Heap.get?_update_self (fun _ => oe2) ((oA e hne).trans he) hfe
   have oB : ∀ b, b ≠ e → (HA.update e (fun _ => oe2)).get? b = HA.get? b := fun b hb => Heap.get?_update_other _ _ (Ne.symm hb)
   have IB := IA.turned (t' := s.toks) (it := e) (h' := HA.update e (fun _ => oe2)) (fun b o hb q => (oB b hb).trans q) g0 g1 g3 g4 g5
   have zB : (HA.update e (fun _ => oe2)).objs.size = s.heap.objs.size := by rw [← zA]; exact Heap.size_after_update ..
   generalize HA.update e (fun _ => oe2) = HB at gB oB IB zB
   have kB : ∀ b o, HB.get? b = some o → h2.get? b = some o := fun b o q => by
     by_cases be : b = e
     · subst be
       rw [gB] at q
       cases q
       exact hoe2
     · rw [oB b be] at q
       by_cases bi : b = it
       · subst bi
         rw [gA] at q
         cases q
         exact hoi2
       · rw [oA b bi] at q
         exact (hs2.2 b be).trans (hk1 b o be bi q)
   have hT : h2.get? s.heap.objs.size = some { cls := .type "tuple", data := .seq #[.int i tk, x'] } := (hs2.2 _ (Nat.ne_of_gt le)).trans ht1
   have IC := IB.laid (a := s.heap.objs.size) (o := .tup [.int (i : Int), x]) (t' := tk + 1) (h' := h2) kB (Nat.le_of_eq zB) ⟨(by show 2 ≤ sizeLine; decide), [.int i tk, x'], .cons ⟨tk, rfl⟩ (.cons ru .nil), ⟨_, hT, rfl, _, rfl⟩⟩
   refine ⟨.ref s.heap.objs.size, _, IC, rfl, ⟨_, x, rfl, I.hok.fresh (Nat.le_refl _), rfl, fun ys hy => by rw [I.tuple_inj hy hq]; exact hx⟩, ⟨_, he2, hit2⟩, fun b hb => ?_⟩
   have bl : b < s.heap.objs.size := by
     rcases List.mem_cons.mp hb with z | z
     · rw [z]; exact le
     · rw [List.mem_singleton.mp z]; exact li
   rw [upd_ne (Nat.ne_of_lt bl)]
   exact (hf b hb).1
 done := by
   intro X hP hw hK hc i pins s σ H E I hf st hg
   subst hP hw hK
   obtain ⟨xs, hq, hx⟩ := hg
   obtain ⟨its, rv, p, hz⟩ := I.tuple hq
   obtain ⟨old, he, hi⟩ := st
   obtain ⟨f0, f1, f2, f3, f4, f5⟩ := hf it (by simp)
   have hl := rv.length
   have ni : its.toArray[i]? = none := by simp; omega
   have T : s.heap.IsTuple a its.toArray := p
   have hT : s.TypeIs (.ref e) "enumerate" := ⟨_, he, rfl⟩
   refine wpAny_mono (Q := fun r s1 => r = none ∧ ∃ h', s1 = { s with heap := h' } ∧ Heap.ExtBut it s.heap h') ?_ (fun r s1 hq => ?_) fun _ _ z => z
   · unfold pyNext
     refine wpAny_bind (wpAny_attempt (wpAny_callSpecial?_slot (name := Str.ofString "__next__") hT F.slot_enumerate_next (wpAny_call_entry F.slot_enumerate_next hT F.entry_enumerate_next ?_ (F.args_enumerate_next_1 _))))
     show wpAny _ _ (field (.ref e) 2 >>= _) _ _ _
     refine wpAny_bind (wpAny_field he rfl (x := .ref it) rfl ?_)
     refine wpAny_bind (next_tup_end (A := X.A.in1) (I.ok.hd hc) hi T ni fun h' x hb hx' => ?_)
     obtain ⟨o, ho, hcs⟩ := hx'
     refine wpAny_bind (wpAny_isInstance (T := "StopIteration") (b := true) ⟨o, ho, hcs⟩ isSubtype_stop ?_)
     exact wpAny_pure ⟨rfl, h', rfl, hb⟩
   · obtain ⟨rfl, h', rfl, eb⟩ := hq
     exact ⟨rfl, I.turned (t' := s.toks) (fun b o hb e => eb b o hb e) f0 f1 f3 f4 f5⟩
 self := fun _ _ _ _ _ st h => by
   obtain ⟨old, he, hi⟩ := st
   exact wpAny_pyIter_enum he h
section
variable {X : Cx}
def iEnumT (K : PySem.W.Frag) (ta : TA) : TI := fun σ H R => ta σ H fun vs H1 => ∃ a, vs = [.ref a] ∧ (∃ xs, SqT K H1 a xs) ∧ R (ItU K a) H1
theorem pi_enumT {l : Expr} {elts : List Expr} {x1} {tp : Pos} {ta : TA} {p pos : Pos} (hg : Gl X "enumerate") (hm : X.mg "enumerate" = none) (ha : PA X [l] ta) (hs : starEach [l] X.env = [(false, eval l X.env)] := by rfl) :
   PI X (.Tuple elts x1 tp) (.Call (.Name "enumerate" p) [l] [] pos) (iEnumT X.K ta) := by
 intro pins s σ H R I h
 refine Call_ (ld_blt I hg hm boot_enumerate (PyProof.Rows.callWith_type1 (thn (ha pos pins s σ H _ I h) fun us s1 ⟨vs, H1, I1, r1, q1⟩ => ?_) hs rfl))
 obtain ⟨a, e, ⟨xs, hq⟩, q⟩ := q1
 subst e
 cases r1 with
 | cons r rr =>
   cases rr
   cases r
   obtain ⟨its, rv, p, hz⟩ := I1.tuple hq
   refine call_enumT (show s1.heap.IsTuple a its.toArray from p) fun h' he hit hsz hk => ?_
   refine wpAny_pyIter_enum he ?_
   refine ⟨s1.heap.objs.size + 1, [s1.heap.objs.size + 1, s1.heap.objs.size], _, _, H1, rfl, I1.kept (t' := s1.toks) hk, turn_enumT a _ _ (Nat.succ_ne_self _), ⟨.none, he, hit⟩, fun b hb => ?_, q⟩
   rcases List.mem_cons.mp hb with z | z
   · rw [z]
     exact I1.fpOk (Nat.le_succ _) (I1.hok.fresh (Nat.le_succ _))
   · rw [List.mem_singleton.mp z]
     exact I1.fpOk (Nat.le_refl _) (I1.hok.fresh (Nat.le_refl _))
theorem for_enumT {K : PySem.W.Frag} {a : Addr} {xs : List V} {g : TG} {tb : TS} {D : Ends} {σ : St} {H : Hp} (Pv : Nat → St → Hp → Prop) (h0 : Pv 0 σ H) (hl : ∀ i σ H, i ≤ xs.length → Pv i σ H → SqT K H a xs)
   (hs : ∀ i x σ H t, xs[i]? = some x → Pv i σ H → H t = none → g (.ref t) σ (upd H t (.tup [.int (i : Int), x])) fun σ2 H2 => tb { D with nx := Pv (i + 1), ct := Pv (i + 1), bk := D.nx } σ2 H2) (hd : ∀ σ H, Pv xs.length σ H → D.nx σ H) :
   ∃ W : Nat → Nat → St → Hp → Prop, (∃ m, W 0 m σ H) ∧ ∀ i m σ H, W i m σ H →
     ((ItU K a).stop i H ∧ D.nx σ H) ∨ ((ItU K a).go i H ∧ ∃ N : St → Hp → Prop, (∀ σ' H', N σ' H' → ∃ m', m' < m ∧ W (i + 1) m' σ' H') ∧ ∀ x H', (ItU K a).yld i H x H' → g x σ H' fun σ2 H2 => tb { D with nx := N, ct := N, bk := D.nx } σ2 H2) := by
 refine ⟨fun i m σ H => m = xs.length - i ∧ i ≤ xs.length ∧ Pv i σ H, ⟨xs.length, by simp, Nat.zero_le _, h0⟩, ?_⟩
 rintro i m σ H ⟨rfl, hi, p⟩
 have q := hl i σ H hi p
 by_cases hlt : i < xs.length
 · refine .inr ⟨⟨xs, xs[i], q, by simp [hlt]⟩, Pv (i + 1), fun σ' H' p' => ⟨xs.length - (i + 1), by omega, rfl, hlt, p'⟩, fun x H' y => ?_⟩
   obtain ⟨t, y, rfl, ht, rfl, hy⟩ := y
   exact hs i y σ H t (hy xs q) p ht
 · have e : i = xs.length := by omega
   subst e
   exact .inl ⟨⟨xs, q, Nat.le_refl _⟩, hd σ H p⟩
end
end L2
namespace L2
open PySem PySem.W PySem.Spec PyProof.Rows L3
section
variable {X : Cx} {CX : CXT} {cm : Bool} {k : Nat} {f C : Addr} {fd : FuncData} {ps : List Str} {sp : Sp} {dvs : List V} {ds : List Value} {E : XK} {x m : Str} {p pos apos : Pos} {e : Expr} {es : List Expr} {t : TA} {mc : Value}
theorem pe_clsC {pl : Sem Bool} (hg : Gl X x) (hm : X.mg x = some (.ref C)) (hgc : specialIn X.K (.ref C) "__getattribute__" = some (some (.builtin "type.__getattribute__"))) (hrd : readsIn X.K C mc = true)
   (hfc : findCls X.K (.ref C) mc m = some (.val (.ref f))) (hh : handedIn (.ref f) = true) (F : FnOk X.prog X.w X.K X.mg X.base CX cm k f fd ps sp) (hr : Room cm k X.A) (hk : keepIn X.K (.ref f) = true) (hb : Binds X.K fd ps ds) (hd : Vals dvs ds) (hx : Passes CX X E) (ha : PA X (e :: es) t)
   (hdb : (x == ("__debug__" : Str)) = false := by decide) (hst : starEach (e :: es) X.env = (false, eval e X.env) :: starEach es X.env := by rfl) (hpl : (backTo pos (starEach es X.env)).any (·.1) = false := by rfl)
   (ht : eval (.Call (.Attribute (.Name x p) m apos) (e :: es) [] pos) X.env = (do
     let ov ← eval (.Name x p) X.env
     standAt apos.atName
     let (f, first) ← holding [ov] (getMethod ov m pl)
     callWith pos f first (backTo pos (starEach (e :: es) X.env)) (backToKw pos (keywordEach [] X.env))) := by rfl) :
   PE X (.Call (.Attribute (.Name x p) m apos) (e :: es) [] pos) (tCall sp dvs E t) := by
 intro pins s σ H Q I h
 refine methodCall_KW (pl := pl) (ld_glob I hg hm ?_ hdb) ht
 refine method_cls I.kIn hgc (cls_value I.kIn hrd hfc hh ?_)
 have I' : Inv X pins σ H { s with toks := s.toks + 1 } := I.kept (t' := s.toks + 1) fun _ _ q => q
 refine callWith_K (first := []) (h₀ := X.base) I.ok.mod.kin hk (thn (ha pos pins _ σ H _ I' h) fun us s2 ⟨vs, H2, I2, r, q2⟩ => ⟨I2.kIn, ?_⟩) hst hpl
 exact run_fn F hr hb hd hx I2 r q2
end
def DefB (K : PySem.W.Frag) (C : Addr) (m qual : Str) (st : Stmt) : Prop := ∃ f fd, FunD K m qual st f fd .none ∧ findCls K (.ref C) (.type "type") m = some (.val (.ref f)) ∧ keepIn K (.ref f) = true
def CalB (P : Program) (w : World) (K : PySem.W.Frag) (mg : Str → Option Value) (base : Heap) (cm : Bool) (k : Nat) (C : Addr) (m : Str) (ps : List Str) (sp : Sp) : Prop :=
 ∃ f fd, FnOk P w K mg base CX0 cm k f fd ps sp ∧ findCls K (.ref C) (.type "type") m = some (.val (.ref f)) ∧ keepIn K (.ref f) = true ∧ Binds K fd ps []
theorem pg_tup3T {X : Cx} {x1 x2 x3 : Str} {p1 p2 p3 pos : Pos} {k : Nat} {scope : Scope} {cl : List (Str × Addr)} {js : List Nat} (hc : X.calm = true) (L : LcOkT X [x1, x2, x3] scope cl js) :
   ∀ (C : Addr) (s2 : Shared) (H2 : Hp) (fp : List Addr) (xe : Value → Shared → Prop), PG (X.inC scope cl C s2 H2 fp ([x1, x2, x3] ++ js.map (fun j => X.N.getD j "")) xe) (.Tuple [.Name x1 p1, .Name x2 p2, .Name x3 p3] k pos) (gTup X.K 3 (gCons (gName 0) (gCons (gName 1) (gCons (gName 2) gNil)))) := fun C s2 H2 fp xe =>
 pg_tup (X := X.inC scope cl C s2 H2 fp ([x1, x2, x3] ++ js.map (fun j => X.N.getD j "")) xe) hc (pgs_cons (pg_nameT (i := 0) L rfl List.mem_cons_self) (pgs_cons (pg_nameT (i := 1) L rfl (List.mem_cons_of_mem _ List.mem_cons_self)) (pgs_cons (pg_nameT (i := 2) L rfl (List.mem_cons_of_mem _ (List.mem_cons_of_mem _ List.mem_cons_self))) pgs_nil)))
theorem call_list_ofC {X : Cx} {scope : Scope} {cl : List (Str × Addr)} {C : Addr} {s2 : Shared} {H2 : Hp} {fp : List Addr} {N' : List Str} {xe : Value → Shared → Prop} : CallR (X.inC scope cl C s2 H2 fp N' xe) (.type "list") (fun xs H Q => ∃ p ys, xs = [.ref p] ∧ (SqL X.K H p ys ∨ SqT X.K H p ys) ∧ ∀ l, H l = none → Q (.ref l) (upd H l (.lst ys))) := call_list_of (X := X.inC scope cl C s2 H2 fp N' xe)
end L2
namespace L2
open PySem PySem.W PySem.Spec PyProof.Rows L3
section
variable {X : Cx}
def eqLi (K : PySem.W.Frag) (H : Hp) (x y : V) : Prop := ∃ a b xs ys, x = .ref a ∧ y = .ref b ∧ SqL K H a xs ∧ SqL K H b ys ∧ EqLs K H xs ys
theorem Inv.eqLi {pins : List (Addr × Obj)} {σ : St} {H : Hp} {s : Shared} {x y : V} {v u : Value} {A : Around} (I : Inv X pins σ H s) (hu : A.units < cLine) (hu1 : A.in1.units < cLine) (e : eqLi X.K H x y) (rx : RelV x v) (ry : RelV y u) : SeqAt.EqAt A s v u true := by
 obtain ⟨a, b, xs, ys, rfl, rfl, ha, hb, hl, he⟩ := e
 cases rx
 cases ry
 by_cases hab : a = b
 · subst hab
   exact SeqAt.EqAt.same _
 obtain ⟨its, r, pl, hz⟩ := I.list ha
 obtain ⟨its2, r2, pl2, hz2⟩ := I.list hb
 have l1 := r.length
 have l2 := r2.length
 have h := SeqAt.RcAt.lists (A := A) (e := fun _ => true) pl.isList pl2.isList (by simp only [List.size_toArray]; omega) hu (fun j h1 h2 => by
   simp only [List.size_toArray] at h1 h2
   obtain ⟨x, e, rx⟩ := vals_at r j h1
   obtain ⟨x2, e2, rx2⟩ := vals_at r2 j h2
   simp only [List.getElem_toArray]
   exact I.eqT hu1 (he j x x2 e e2) rx rx2)
 rw [show ((List.range its.toArray.size).all fun _ => true) = true by simp] at h
 exact SeqAt.EqAt.of_refs hab h
theorem op_eqU {cm : Bool} {k : Nat} (hr : Room cm k X.A) : OpR X (compareOp .Eq) (fun x y H Q => ∃ a b xs ys, x = .ref a ∧ y = .ref b ∧ SqT X.K H a xs ∧ SqT X.K H b ys ∧ xs.length = ys.length ∧ (∀ (j : Nat) x y, xs[j]? = some x → ys[j]? = some y → eqT X.K H x y ∨ eqLi X.K H x y) ∧ Q (.bl true) H) := by
 intro pins s σ H x y v u Q I rx ry h
 obtain ⟨a, b, xs, ys, rfl, rfl, ha, hb, hl, he, q⟩ := h
 cases rx
 cases ry
 obtain ⟨its, r, pl, hz⟩ := I.tuple ha
 obtain ⟨its2, r2, pl2, hz2⟩ := I.tuple hb
 have l1 := r.length
 have l2 := r2.length
 have hu : X.A.units < cLine := by have := hr.un; omega
 have hu1 : X.A.in1.units < cLine := by have := hr.un; show X.A.units + 1 < cLine; omega
 have hu2 : X.A.in1.in1.units < cLine := by have := hr.un; show X.A.units + 1 + 1 < cLine; omega
 refine SeqAt.eq_tupleAt (e := fun _ => true) (show s.heap.IsTuple a its.toArray from pl) (show s.heap.IsTuple b its2.toArray from pl2) hu (fun j h1 h2 => ?_) ?_
 · simp only [List.size_toArray] at h1 h2
   obtain ⟨x, e, rx⟩ := vals_at r j h1
   obtain ⟨x2, e2, rx2⟩ := vals_at r2 j h2
   simp only [List.getElem_toArray]
   rcases he j x x2 e e2 with w | w
   · exact I.eqT hu1 w rx rx2
   · exact I.eqLi hu1 hu2 w rx rx2
 · have hb : ((List.range (min its.toArray.size its2.toArray.size)).all (fun _ => true) && its.toArray.size == its2.toArray.size) = true := by
     simp only [List.size_toArray]
     rw [← l1, ← l2, hl]
     simp
   rw [hb]
   exact ⟨.bl true, H, I, rfl, q⟩
end
end L2
namespace L2
open PySem PySem.W PySem.Spec PyProof.Rows L3
section
variable {X : Cx} {CX : CXT} {cm : Bool} {k : Nat} {E : XK} {m : Str} {pos apos : Pos} {o : Expr} {ta : TE}
end
end L2
namespace L2
open PySem PySem.W PySem.Spec PyProof.Rows L3
section
variable {X : Cx}
def eqTu (K : PySem.W.Frag) (H : Hp) (x y : V) : Prop := ∃ a b xs ys, x = .ref a ∧ y = .ref b ∧ SqT K H a xs ∧ SqT K H b ys ∧ xs.length = ys.length ∧ ∀ (j : Nat) x y, xs[j]? = some x → ys[j]? = some y → eqT K H x y ∨ eqLi K H x y
theorem Inv.eqTu {pins : List (Addr × Obj)} {σ : St} {H : Hp} {s : Shared} {x y : V} {v u : Value} {A : Around} (I : Inv X pins σ H s) (w0 : A.units < cLine) (w1 : A.in1.units < cLine) (w2 : A.in1.in1.units < cLine) (t : eqTu X.K H x y) (rx : RelV x v) (ry : RelV y u) : SeqAt.EqAt A s v u true := by
 obtain ⟨a, b, xs, ys, rfl, rfl, ha, hb, hl, he⟩ := t
 cases rx
 cases ry
 by_cases hab : a = b
 · subst hab
   exact SeqAt.EqAt.same _
 obtain ⟨i1, r1, p1, z1⟩ := I.tuple ha
 obtain ⟨i2, r2, p2, z2⟩ := I.tuple hb
 have n1 := r1.length
 have n2 := r2.length
 have h := SeqAt.RcAt.tuples (A := A) (e := fun _ => true) (show s.heap.IsTuple a i1.toArray from p1) (show s.heap.IsTuple b i2.toArray from p2) w0 (fun j h1 h2 => by
   simp only [List.size_toArray] at h1 h2
   obtain ⟨x, e, rx⟩ := vals_at r1 j h1
   obtain ⟨x2, e2, rx2⟩ := vals_at r2 j h2
   simp only [List.getElem_toArray]
   rcases he j x x2 e e2 with w | w
   · exact I.eqT w1 w rx rx2
   · exact I.eqLi w1 w2 w rx rx2)
 rw [show ((List.range (min i1.toArray.size i2.toArray.size)).all (fun _ => true) && i1.toArray.size == i2.toArray.size) = true by
   simp only [List.size_toArray]
   rw [← n1, ← n2, hl]
   simp] at h
 exact SeqAt.EqAt.of_refs hab h
end
end L2
namespace L2
open PySem PySem.W PySem.Spec PyProof.Rows L3
section
variable {X : Cx}
theorem eqV_self {x : V} (h : flatV x = true) : eqV x x = true := by
 cases x <;> simp_all [flatV, eqV]
def tupB (xs ys : List V) : Bool := (List.range (min xs.length ys.length)).all (fun j => match xs[j]?, ys[j]? with | some x, some y => eqV x y | _, _ => true) && xs.length == ys.length
theorem tupB_self {xs : List V} (h : ∀ v ∈ xs, flatV v = true) : tupB xs xs = true := by
 unfold tupB
 rw [Bool.and_eq_true]
 refine ⟨List.all_eq_true.mpr fun j hj => ?_, by simp⟩
 have hj2 : j < xs.length := by simpa using hj
 rw [List.getElem?_eq_getElem hj2]
 exact eqV_self (h _ (List.getElem_mem hj2))
def eqTB (K : PySem.W.Frag) (H : Hp) (x y : V) (b : Bool) : Prop := ∃ a c xs ys, x = .ref a ∧ y = .ref c ∧ SqT K H a xs ∧ SqT K H c ys ∧ (∀ v ∈ xs, flatV v = true) ∧ (∀ v ∈ ys, flatV v = true) ∧ (a = c → xs = ys) ∧ b = tupB xs ys
theorem Inv.eqTB {pins : List (Addr × Obj)} {σ : St} {H : Hp} {s : Shared} {x y : V} {v u : Value} {b : Bool} {A : Around} (I : Inv X pins σ H s) (w0 : A.units < cLine) (t : eqTB X.K H x y b) (rx : RelV x v) (ry : RelV y u) : SeqAt.EqAt A s v u b := by
 obtain ⟨a, c, xs, ys, rfl, rfl, ha, hb, fx, fy, hs, rfl⟩ := t
 cases rx
 cases ry
 by_cases hab : a = c
 · subst hab
   rw [← hs rfl, tupB_self fx]
   exact SeqAt.EqAt.same _
 obtain ⟨i1, r1, p1, z1⟩ := I.tuple ha
 obtain ⟨i2, r2, p2, z2⟩ := I.tuple hb
 have n1 := r1.length
 have n2 := r2.length
 have h := SeqAt.RcAt.tuples (A := A) (e := fun j => match xs[j]?, ys[j]? with | some x, some y => eqV x y | _, _ => true) (show s.heap.IsTuple a i1.toArray from p1) (show s.heap.IsTuple c i2.toArray from p2) w0 (fun j h1 h2 => by
   simp only [List.size_toArray] at h1 h2
   obtain ⟨x, e, rx⟩ := vals_at r1 j h1
   obtain ⟨x2, e2, rx2⟩ := vals_at r2 j h2
   simp only [List.getElem_toArray]
   rw [e, e2]
   exact eqAt_V rx rx2 (fx x (List.mem_of_getElem? e)) (fy x2 (List.mem_of_getElem? e2)))
 rw [show ((List.range (min i1.toArray.size i2.toArray.size)).all (fun j => match xs[j]?, ys[j]? with | some x, some y => eqV x y | _, _ => true) && i1.toArray.size == i2.toArray.size) = tupB xs ys by
   unfold tupB
   simp only [List.size_toArray]
   rw [← n1, ← n2]] at h
 exact SeqAt.EqAt.of_refs hab h
def lstB (xs ys : List V) (e : Nat → Bool) : Bool := xs.length == ys.length && (List.range xs.length).all e
theorem op_eqB {cm : Bool} {k : Nat} (hr : Room cm k X.A) : OpR X (compareOp .Eq) (fun x y H Q => ∃ a c xs ys e, x = .ref a ∧ y = .ref c ∧ SqL X.K H a xs ∧ SqL X.K H c ys ∧ (∀ (j : Nat) x y, xs[j]? = some x → ys[j]? = some y → eqTB X.K H x y (e j)) ∧ Q (.bl (lstB xs ys e)) H) := by
 intro pins s σ H x y v u Q I rx ry h
 obtain ⟨a, c, xs, ys, e, rfl, rfl, ha, hb, he, q⟩ := h
 cases rx
 cases ry
 obtain ⟨i1, r1, p1, z1⟩ := I.list ha
 obtain ⟨i2, r2, p2, z2⟩ := I.list hb
 have n1 := r1.length
 have n2 := r2.length
 have w0 : X.A.units < cLine := by have := hr.un; omega
 have w1 : X.A.in1.units < cLine := by have := hr.un; show X.A.units + 1 < cLine; omega
 by_cases hl : xs.length = ys.length
 · refine SeqAt.eq_listAt (e := e) p1.isList p2.isList (by simp only [List.size_toArray]; omega) w0 (fun j h1 h2 => ?_) ?_
   · simp only [List.size_toArray] at h1 h2
     obtain ⟨x, e1, rx⟩ := vals_at r1 j h1
     obtain ⟨x2, e2, rx2⟩ := vals_at r2 j h2
     simp only [List.getElem_toArray]
     exact I.eqTB w1 (he j x x2 e1 e2) rx rx2
   · have hb : lstB xs ys e = (List.range i1.toArray.size).all e := by
       unfold lstB
       simp only [List.size_toArray]
       rw [← n1, hl]
       simp
     rw [hb] at q
     exact ⟨.bl ((List.range i1.toArray.size).all e), H, I, rfl, q⟩
 · have hb : lstB xs ys e = false := by
     unfold lstB
     rw [show (xs.length == ys.length) = false by simpa using hl]
     rfl
   rw [hb] at q
   refine SeqAt.eq_list_lengthsAt p1.isList p2.isList ?_ w0 ⟨.bl false, H, I, rfl, q⟩
   simp only [List.size_toArray]
   rw [← n1, ← n2]
   simpa using hl
def eqLB (K : PySem.W.Frag) (H : Hp) (x y : V) (b : Bool) : Prop := ∃ a c xs ys e, x = .ref a ∧ y = .ref c ∧ SqL K H a xs ∧ SqL K H c ys ∧ (∀ (j : Nat) x y, xs[j]? = some x → ys[j]? = some y → eqTB K H x y (e j)) ∧ (a = c → lstB xs ys e = true) ∧ b = lstB xs ys e
theorem Inv.eqLB {pins : List (Addr × Obj)} {σ : St} {H : Hp} {s : Shared} {x y : V} {v u : Value} {b : Bool} {A : Around} (I : Inv X pins σ H s) (w0 : A.units < cLine) (w1 : A.in1.units < cLine) (t : eqLB X.K H x y b) (rx : RelV x v) (ry : RelV y u) : SeqAt.EqAt A s v u b := by
 obtain ⟨a, c, xs, ys, e, rfl, rfl, ha, hb, he, hs, rfl⟩ := t
 cases rx
 cases ry
 by_cases hab : a = c
 · subst hab
   rw [hs rfl]
   exact SeqAt.EqAt.same _
 obtain ⟨i1, r1, p1, z1⟩ := I.list ha
 obtain ⟨i2, r2, p2, z2⟩ := I.list hb
 have n1 := r1.length
 have n2 := r2.length
 by_cases hl : xs.length = ys.length
 · have h := SeqAt.RcAt.lists (A := A) (e := e) p1.isList p2.isList (by simp only [List.size_toArray]; omega) w0 (fun j h1 h2 => by
     simp only [List.size_toArray] at h1 h2
     obtain ⟨x, e1, rx⟩ := vals_at r1 j h1
     obtain ⟨x2, e2, rx2⟩ := vals_at r2 j h2
     simp only [List.getElem_toArray]
     exact I.eqTB w1 (he j x x2 e1 e2) rx rx2)
   rw [show (List.range i1.toArray.size).all e = lstB xs ys e by
     unfold lstB
     simp only [List.size_toArray]
     rw [← n1, hl]
     simp] at h
   exact SeqAt.EqAt.of_refs hab h
 · rw [show lstB xs ys e = false by
     unfold lstB
     rw [show (xs.length == ys.length) = false by simpa using hl]
     rfl]
   exact SeqAt.EqAt.of_refs hab (SeqAt.RcAt.lists_lengths (A := A) p1.isList p2.isList (by
     simp only [List.size_toArray]
     rw [← n1, ← n2]
     simpa using hl) w0)
theorem op_eqPB {cm : Bool} {k : Nat} (hr : Room cm k X.A) : OpR X (compareOp .Eq) (fun x y H Q => ∃ a c xs ys e, x = .ref a ∧ y = .ref c ∧ SqT X.K H a xs ∧ SqT X.K H c ys ∧ (∀ (j : Nat) x y, xs[j]? = some x → ys[j]? = some y → (flatV x = true ∧ flatV y = true ∧ e j = eqV x y) ∨ eqLB X.K H x y (e j)) ∧ Q (.bl ((List.range (min xs.length ys.length)).all e && xs.length == ys.length)) H) := by
 intro pins s σ H x y v u Q I rx ry h
 obtain ⟨a, c, xs, ys, e, rfl, rfl, ha, hb, he, q⟩ := h
 cases rx
 cases ry
 obtain ⟨i1, r1, p1, z1⟩ := I.tuple ha
 obtain ⟨i2, r2, p2, z2⟩ := I.tuple hb
 have n1 := r1.length
 have n2 := r2.length
 have w0 : X.A.units < cLine := by have := hr.un; omega
 have w1 : X.A.in1.units < cLine := by have := hr.un; show X.A.units + 1 < cLine; omega
 have w2 : X.A.in1.in1.units < cLine := by have := hr.un; show X.A.units + 1 + 1 < cLine; omega
 refine SeqAt.eq_tupleAt (e := e) (show s.heap.IsTuple a i1.toArray from p1) (show s.heap.IsTuple c i2.toArray from p2) w0 (fun j h1 h2 => ?_) ?_
 · simp only [List.size_toArray] at h1 h2
   obtain ⟨x, e1, rx⟩ := vals_at r1 j h1
   obtain ⟨x2, e2, rx2⟩ := vals_at r2 j h2
   simp only [List.getElem_toArray]
   rcases he j x x2 e1 e2 with ⟨f1, f2, ee⟩ | w
   · rw [ee]
     exact eqAt_V rx rx2 f1 f2
   · exact I.eqLB w1 w2 w rx rx2
 · rw [n1, n2] at q
   refine ⟨.bl ((List.range (min i1.length i2.length)).all e && i1.length == i2.length), H, I, ?_, q⟩
   simp only [List.size_toArray]
   rfl
end
end L2
namespace L2
open PySem PySem.W PySem.Spec PyProof.Rows L3
section
variable {X : Cx} {CX : CXT} {cm : Bool} {k : Nat} {E : XK} {m : Str} {pos apos : Pos} {o e : Expr} {es : List Expr} {ta : TE} {t : TA}
end
end L2
namespace L2
open PySem PySem.W PySem.Spec PyProof.Rows L3
section
variable {X : Cx}
end
end L2
namespace L2
open PySem PySem.W PySem.Spec PyProof.Rows L3
section
variable {X : Cx}
def Odd (K : PySem.W.Frag) (H : Hp) (x : V) : Prop := x = .non ∨ (∃ s, x = .str s) ∨ ∃ a xs, x = .ref a ∧ SqL K H a xs
def PB (K : PySem.W.Frag) (H : Hp) (x y : V) (b : Bool) : Prop := ∃ a c xs ys e, x = .ref a ∧ y = .ref c ∧ SqT K H a xs ∧ SqT K H c ys ∧ (∀ (j : Nat) x y, xs[j]? = some x → ys[j]? = some y → (flatV x = true ∧ flatV y = true ∧ e j = eqV x y) ∨ eqLB K H x y (e j)) ∧ b = ((List.range (min xs.length ys.length)).all e && xs.length == ys.length)
theorem op_eqK {cm : Bool} {k : Nat} (hr : Room cm k X.A) : OpR X (compareOp .Eq) (fun x y H Q => ∃ b, ((b = false ∧ Odd X.K H x ∧ ∃ c ys, y = .ref c ∧ SqT X.K H c ys) ∨ PB X.K H x y b) ∧ Q (.bl b) H) := by
 intro pins s σ H x y v u Q I rx ry h
 obtain ⟨b, h, q⟩ := h
 have w0 : X.A.units < cLine := by have := hr.un; omega
 rcases h with ⟨rfl, ho, c, ys, rfl, hb⟩ | ⟨a, c, xs, ys, e, rfl, rfl, ha, hb, he, rfl⟩
 · cases ry
   obtain ⟨i2, r2, p2, z2⟩ := I.tuple hb
   have p2 : s.heap.IsTuple c i2.toArray := p2
   rcases ho with rfl | ⟨t, rfl⟩ | ⟨a, xs, rfl, ha⟩
   · cases rx
     refine SeqAt.RcAt.none_tuple p2 w0 _ _ _ _ ?_
     exact ⟨.bl false, H, I, rfl, q⟩
   · obtain ⟨tk, rfl⟩ := rx
     refine SeqAt.RcAt.str_tuple _ _ p2 w0 _ _ _ _ ?_
     exact ⟨.bl false, H, I, rfl, q⟩
   · cases rx
     obtain ⟨i1, r1, p1, z1⟩ := I.list ha
     refine SeqAt.RcAt.list_tuple p1.isList p2 w0 _ _ _ _ ?_
     exact ⟨.bl false, H, I, rfl, q⟩
 · exact op_eqPB hr pins s σ H _ _ v u Q I rx ry ⟨a, c, xs, ys, e, rfl, rfl, ha, hb, he, q⟩
end
end L2
namespace L2
open PySem PySem.W PySem.Spec PyProof.Rows L3
def tTryN (K : PySem.W.Frag) (CB : Addr) (tb : (St → Prop) → XK → TS) (ts : TS) : TS := fun D σ H =>
 tb (fun σ' => σ' = σ) (fun C dx H' => PySem.W.exmOne K C (.ref CB) = some true ∧ ∀ x, H' x = none → ts D σ (upd H' x (excO x C dx))) D σ H
section
variable {X : Cx}
theorem ps_tryN {body suite : List Stmt} {b0 : Stmt} {y : Str} {np hpos pos : Pos} {CB : Addr} {tb : (St → Prop) → XK → TS} {ts : TS}
   (hst : X.stack = X.env :: X.outer) (hfr : X.env.frame = some X.env.locals) (hg : Gl X y) (hm : X.mg y = some (.ref CB))
   (hb : ∀ (pn : List (Addr × Obj)) (E : Value → Shared → Prop) (R : St → Prop) (Ek : XK), PassesOwn (model X.prog X.w) X.A X.env E → XeIs (into X pn E) R Ek → PSs (into X pn E) body (tb R Ek)) (hs : ∀ x, PSs (sup X x) (b0 :: suite) ts)
   (hdb : (y == ("__debug__" : Str)) = false := by decide) : PS X (.Try body [.ExceptHandler (some (.Name y np)) none (b0 :: suite) hpos] [] [] pos) (tTryN X.K CB tb ts) := by
 intro pins s σ H D I h
 refine wpAny_Try_except ?_
 have hxe : XeIs (into X (X.pn ++ pins) (fun e s1 => wpAny (model X.prog X.w) X.A (noteFrame e X.env) (fun _ s2 => wpAny (model X.prog X.w) X.A (setFlight e none)
     (fun _ s3 => wpAny (model X.prog X.w) X.A (handleBy e X.env [.ExceptHandler (some (.Name y np)) none (b0 :: suite) hpos]) (SP X pins D) X.xe s3) X.xe s2) X.xe s1)) (fun σ' => σ' = σ)
     (fun C dx H' => PySem.W.exmOne X.K C (.ref CB) = some true ∧ ∀ x, H' x = none →
       ts D σ (upd H' x (excO x C dx))) := by
   rintro pins' σ' H' s' x C dx I' rfl ex ⟨hmt, hsu⟩
   have I1 : Inv X pins σ' H' s' := inv_outof I'
   have own : FpOk X pins H' x := fp_outof ex.own
   -- behind noteFrame and setFlight
   have fin : ∀ (T : Addr) (s3 : Shared), Inv X pins σ' H' s3 → FpOk X pins H' T → T ≠ x → Rec s3.heap x C dx (.ref T) → Tra s3.heap T .none →
       wpAny (model X.prog X.w) X.A (handleBy (.ref x) X.env [.ExceptHandler (some (.Name y np)) none (b0 :: suite) hpos]) (SP X pins D) X.xe s3 := by
     intro T s3 I3 fT ne r3 t3
     have LT : PySem.W.Looks (model X.prog X.w) s3.heap (typeOf (.ref x)) C := by
       obtain ⟨oe, vs, he, hc, _⟩ := id r3
       exact hc ▸ (PySem.W.Looks.ld he).andThen .now
     refine wpAny_handleBy_cons (codeAny_handlers_test (ld_glob (X := sup X x) (inv_sup I3 x) hg hm ((PySem.W.exm_one I3.kIn LT hmt).here ?_) hdb)) (by intro z; cases z)
     show codeAny _ _ (.handlers (.ref x) [.ExceptHandler none none (b0 :: suite) hpos] X.env) _ s3
     refine codeAny_handlers_suite (flight_none r3 ne t3 fun h4 a4 r4 t4 => ?_)
     have I4 : Inv X pins σ' H' { s3 with heap := h4 } := aft I3 (a4.mono (by simp) fun _ z => z) (by intro b hb; have : b = T := by simpa using hb
                                                                                                      subst this; exact fT)
     have I5 := track (o := excO x C dx) I4 own (excO_ok r4)
     refine wpAny_mono (hs x pins _ _ _ _ (inv_sup I5 x) (hsu x own.1)) (fun f s7 q => ?_) fun _ _ z => z.elim
     cases f with
     | next => obtain ⟨σ7, H7, I7, q7⟩ := q; exact ⟨_, _, inv_unsup I.ok I7, q7⟩
     | brk => obtain ⟨σ7, H7, I7, q7⟩ := q; exact ⟨_, _, inv_unsup I.ok I7, q7⟩
     | cont => obtain ⟨σ7, H7, I7, q7⟩ := q; exact ⟨_, _, inv_unsup I.ok I7, q7⟩
     | ret u => obtain ⟨v7, σ7, H7, I7, r7, q7⟩ := q; exact ⟨v7, _, _, inv_unsup I.ok I7, r7, q7⟩
   have fr : X.A.frames = some (X.env :: X.outer) := by rw [I1.ok.frames, hst]
   have stk : s'.heap.FunFrames X.base (X.env :: X.outer) := by rw [← hst]; exact I1.stack
   have big : ∀ {T : Addr}, s'.heap.objs.size ≤ T → (∃ tb, Rec s'.heap x C dx tb) → T ≠ x := fun sz ⟨_, oe, _, he, _⟩ z => absurd (Nat.lt_of_lt_of_le (Heap.lt_size he) (z ▸ sz)) (Nat.lt_irrefl _)
   rcases ex.tr with r | ⟨T0, fl0, r, ne0, t0, f0⟩
   · refine note_new fr stk hfr r fun h' T a sz r' t' => ?_
     have J1 := aft I1 (by rw [hst]; exact a) (by intro b hb; have : b = x := by simpa using hb
                                                  subst this; exact own)
     have ne := big sz ⟨_, r⟩
     have fT := I1.fpOk (H' := H') sz (I1.hok.fresh sz)
     refine flight_none r' ne t' fun h2 a2 r2 t2 => ?_
     exact fin T _ (aft (h' := h2) J1 (a2.mono (by simp) fun _ z => z) (by intro b hb; have : b = T := by simpa using hb
                                                                           subst this; exact fT)) fT ne r2 t2
   · refine note_any fr stk hfr r ne0 t0 fun h' T fl' a sz r' t' => ?_
     have J1 := aft I1 (by rw [hst]; exact a) (by intro b hb
                                                  rcases (show b = x ∨ b = T0 by simpa using hb) with z | z
                                                  · subst z; exact own
                                                  · subst z; exact fp_outof f0)
     have ne : T ≠ x := by
       rcases sz with z0 | z0
       · rw [z0]; exact ne0
       · exact big z0 ⟨_, r⟩
     have fT : FpOk X pins H' T := by
       rcases sz with z0 | z0
       · rw [z0]; exact fp_outof f0
       · exact I1.fpOk (H' := H') z0 (I1.hok.fresh z0)
     refine flight_none r' ne t' fun h2 a2 r2 t2 => ?_
     exact fin T _ (aft (h' := h2) J1 (a2.mono (by simp) fun _ z => z) (by intro b hb; have : b = T := by simpa using hb
                                                                           subst this; exact fT)) fT ne r2 t2
 refine wpAny_mono (hb (X.pn ++ pins) _ _ _ PassesOwn.looking hxe [] s σ H D (inv_into I _) h) (fun f s1 q => ?_) fun _ _ z => z
 have q' := sp_outof q
 cases f with
 | next => exact wpAny_execs_nil q'
 | brk => exact q'
 | cont => exact q'
 | ret u => exact q'
end
end L2
namespace L2
open PySem PySem.W PySem.Spec PyProof.Rows L3
section
variable {X : Cx}
theorem op_inK {cm : Bool} {k : Nat} (hr : Room cm k X.A) : OpR X (compareOp .In) (fun x y H Q => ∃ p ys b, y = .ref p ∧ SqL X.K H p ys ∧ ((ys = [] ∧ b = false) ∨ ∃ z, ys = [z] ∧ z ≠ x ∧ PB X.K H z x b) ∧ Q (.bl b) H) := by
 intro pins s σ H x y v u Q I rx ry h
 obtain ⟨p, ys, b, rfl, hp, hb, q⟩ := h
 cases ry
 obtain ⟨its, r, pl, hz⟩ := I.list hp
 refine SeqAt.in_listAt (fun _ => b) pl.isList (fun w hw => ?_) ?_
 · rcases hb with ⟨rfl, rfl⟩ | ⟨z, rfl, hne, a, c, xs, zs, e, rfl, rfl, ha, hc, he, rfl⟩
   · have := r.length
     have h0 : its = [] := List.eq_nil_of_length_eq_zero (by simpa using this.symm)
     subst h0
     simp at hw
   · cases rx
     cases r with
     | cons r1 r2 =>
       cases r2
       cases r1
       obtain rfl : w = Value.ref a := by simpa using hw
       obtain ⟨i1, r1, p1, z1⟩ := I.tuple ha
       obtain ⟨i2, r2, p2, z2⟩ := I.tuple hc
       have n1 := r1.length
       have n2 := r2.length
       have w1 : X.A.in1.units < cLine := by have := hr.un; show X.A.units + 1 < cLine; omega
       have w2 : X.A.in1.in1.units < cLine := by have := hr.un; show X.A.units + 1 + 1 < cLine; omega
       have w3 : X.A.in1.in1.in1.units < cLine := by have := hr.un; show X.A.units + 1 + 1 + 1 < cLine; omega
       have key := SeqAt.RcAt.tuples (A := X.A.in1) (e := e) (show s.heap.IsTuple a i1.toArray from p1) (show s.heap.IsTuple c i2.toArray from p2) w1 (fun j h1 h2 => by
         simp only [List.size_toArray] at h1 h2
         obtain ⟨x, e1, rx⟩ := vals_at r1 j h1
         obtain ⟨x2, e2, rx2⟩ := vals_at r2 j h2
         simp only [List.getElem_toArray]
         rcases he j x x2 e1 e2 with ⟨f1, f2, ee⟩ | w
         · rw [ee]
           exact eqAt_V rx rx2 f1 f2
         · exact I.eqLB w2 w3 w rx rx2)
       simp only [List.size_toArray] at key
       rw [← n1, ← n2] at key
       exact SeqAt.EqAt.of_refs (fun h => hne (by rw [h])) key
 · refine ⟨.bl b, H, I, ?_, q⟩
   rcases hb with ⟨rfl, rfl⟩ | ⟨z, rfl, _⟩
   · have := r.length
     have h0 : its = [] := List.eq_nil_of_length_eq_zero (by simpa using this.symm)
     subst h0
     show Value.bool (Array.any _ _) = _
     simp
   · cases r with
     | cons r1 r2 =>
       cases r2
       show Value.bool (Array.any _ _) = _
       simp
end
end L2
namespace N21
variable {κ : Type} [DecidableEq κ]
def tot (c : κ) : List (κ × Int) → Int
 | [] => 0
 | p :: r => (if p.1 = c then p.2 else 0) + tot c r
def add (acc : List κ) (c : κ) : List κ := if c ∈ acc then acc else acc ++ [c]
def firsts (cs : List κ) : List κ := cs.foldl add []
theorem firsts_snoc (cs : List κ) (c : κ) : firsts (cs ++ [c]) = add (firsts cs) c := by
 unfold firsts
 rw [List.foldl_append]
 rfl
theorem mem_foldl (c : κ) : ∀ (cs acc : List κ), c ∈ cs.foldl add acc ↔ c ∈ acc ∨ c ∈ cs
 | [], acc => by simp
 | d :: cs, acc => by
   rw [List.foldl_cons, mem_foldl c cs (add acc d), List.mem_cons]
   unfold add
   split
   · rename_i h
     constructor
     · rintro (h1 | h1)
       · exact .inl h1
       · exact .inr (.inr h1)
     · rintro (h1 | rfl | h1)
       · exact .inl h1
       · exact .inl h
       · exact .inr h1
   · rw [List.mem_append, List.mem_singleton]
     constructor
     · rintro ((h1 | h1) | h1)
       · exact .inl h1
       · exact .inr (.inl h1)
       · exact .inr (.inr h1)
     · rintro (h1 | h1 | h1)
       · exact .inl (.inl h1)
       · exact .inl (.inr h1)
       · exact .inr h1
theorem mem_firsts {c : κ} {cs : List κ} : c ∈ firsts cs ↔ c ∈ cs := by
 unfold firsts
 rw [mem_foldl]
 simp
theorem len_add (acc : List κ) (c : κ) : (add acc c).length ≤ acc.length + 1 := by
 unfold add
 split
 · omega
 · rw [List.length_append]; exact Nat.le_refl _
theorem len_foldl : ∀ (cs acc : List κ), (cs.foldl add acc).length ≤ acc.length + cs.length
 | [], acc => by simp
 | d :: cs, acc => by
   have h1 := len_foldl cs (add acc d)
   have h2 := len_add acc d
   rw [List.foldl_cons, List.length_cons]
   omega
theorem len_firsts (cs : List κ) : (firsts cs).length ≤ cs.length := by
 have := len_foldl cs ([] : List κ)
 unfold firsts
 simpa using this
theorem tot_snoc (c : κ) (p : κ × Int) : ∀ P : List (κ × Int), tot c (P ++ [p]) = tot c P + (if p.1 = c then p.2 else 0)
 | [] => by show _ + 0 = 0 + _; omega
 | q :: r => by
   show _ + tot c (r ++ [p]) = _ + tot c r + _
   rw [tot_snoc c p r]
   omega
theorem tot_not {c : κ} : ∀ {P : List (κ × Int)}, c ∉ P.map (·.1) → tot c P = 0
 | [], _ => rfl
 | q :: r, h => by
   have h1 : ¬ q.1 = c := fun e => h (by rw [← e]; exact List.mem_cons_self)
   have h2 := tot_not (P := r) fun m => h (List.mem_cons_of_mem _ m)
   show (if q.1 = c then q.2 else 0) + tot c r = 0
   rw [if_neg h1, h2]
   rfl
theorem nodup_add {acc : List κ} (h : acc.Nodup) (c : κ) : (add acc c).Nodup := by
 unfold add
 split
 · exact h
 · rename_i n
   exact List.nodup_append.mpr ⟨h, by simp, fun a ha b hb => by rw [List.mem_singleton.mp hb]; exact fun e => n (e ▸ ha)⟩
theorem nodup_foldl : ∀ (cs acc : List κ), acc.Nodup → (cs.foldl add acc).Nodup
 | [], _, h => h
 | d :: cs, acc, h => nodup_foldl cs (add acc d) (nodup_add h d)
theorem nodup_firsts (cs : List κ) : (firsts cs).Nodup := nodup_foldl cs [] List.nodup_nil
def rs (P : List (κ × Int)) : List (κ × Int) := (firsts (P.map (·.1))).map fun c => (c, tot c P)
end N21
namespace K36
open PySem L2 L3
def top (i : Nat) : Stmt := PySem.Challenge.pw_groupbooks_k36_whole_closed_stay.main.body.getD i (.Pass ⟨0, 0, 0, 0⟩)
abbrev s_rests_of : Stmt := top 7
abbrev s_month_of : Stmt := top 9
abbrev s_put_together : Stmt := top 10
abbrev s_figures_of : Stmt := top 11
abbrev s_check_entry : Stmt := top 12
abbrev s_paper_copy : Stmt := top 15
abbrev s_movement_of : Stmt := top 18
abbrev s_carried : Stmt := top 19
abbrev s_paper_holds : Stmt := top 20
abbrev s__law_cell : Stmt := top 22
abbrev s__law_whole : Stmt := top 23
abbrev s__law_names : Stmt := top 24
abbrev s__law_amount : Stmt := top 25
abbrev s__law_lines : Stmt := top 26
abbrev s__law_figures : Stmt := top 27
abbrev s__law_upto : Stmt := top 28
abbrev s__law_paper : Stmt := top 29
abbrev s__law_papers : Stmt := top 30
abbrev s__law_copies : Stmt := top 31
abbrev s__law_look : Stmt := top 32
abbrev s__law_posted : Stmt := top 33
abbrev s__law_opened : Stmt := top 34
abbrev s__law_other : Stmt := top 35
abbrev s__law_step : Stmt := top 36
abbrev s__law_end : Stmt := top 37
abbrev s_law : Stmt := top 38
section
variable {P : Program} {w : World} {K : PySem.W.Frag} {mg : Str → Option Value} {base : Heap} {cm : Bool}
def spCell (K : PySem.W.Frag) : Sp := fun vs H Q _ => ∃ (a : Addr) (ns : List Int) (k : Nat), vs = [.ref a, .int k] ∧ SqL K H a (ns.map V.int) ∧ Q (.int (ns.getD k 0)) H
def spWhole : Sp := fun vs H Q _ => ∃ i : Int, vs = [.int i] ∧ Q (.bl true) H
def spLaw (K : PySem.W.Frag) : Sp := fun vs H Q _ => ∃ (a : Addr) (ns : List Int), vs = [.ref a] ∧ SqL K H a (ns.map V.int) ∧ ns.length ≤ 63 ∧ (∀ w ∈ ns, PySem.Builtin.Int.intBits w ≤ 2 ^ 20) ∧ ∀ H', Q (.bl true) H'
theorem same_upd {H : Hp} {p : Addr} {o : HO} (h : H p = none) : Same H (upd H p o) := fun b o' hb => by
 rw [upd_ne (ne_of_none hb h)]
 exact hb
theorem same_set {H0 H : Hp} {p : Addr} {o : HO} (e : Same H0 H) (h : H0 p = none) : Same H0 (upd H p o) := fun b o' hb => by
 rw [upd_ne (ne_of_none hb h)]
 exact e _ _ hb
theorem cut_ints (ws : List Int) (lo hi : Option Int) : ∃ us : List Int, cutV (ws.map V.int) lo hi = us.map V.int ∧ us.length ≤ ws.length ∧ ∀ w ∈ us, w ∈ ws := by
 refine ⟨(ws.drop (HT.sIx ws.length 0 lo)).take (HT.sIx ws.length ws.length hi - HT.sIx ws.length 0 lo), ?_, ?_, fun w hw => List.mem_of_mem_drop (List.mem_of_mem_take hw)⟩
 · unfold cutV
   rw [List.length_map, ← List.map_drop, ← List.map_take]
 · rw [List.length_take, List.length_drop]
   omega
abbrev Sd := Addr × Str × Str × Str × Int
def tupZ (z : Sd) : HO := .tup [.str z.2.1, .str z.2.2.1, .str z.2.2.2.1, .int z.2.2.2.2]
def rfs (L : List Sd) : List V := L.map fun z => .ref z.1
theorem rfs_len (L : List Sd) : (rfs L).length = L.length := List.length_map ..
theorem rfs_app (A B : List Sd) : rfs (A ++ B) = rfs A ++ rfs B := List.map_append ..
theorem rfs_at {L : List Sd} {i : Nat} {x : V} (h : (rfs L)[i]? = some x) : ∃ z, L[i]? = some z ∧ x = .ref z.1 := by
 unfold rfs at h
 rw [List.getElem?_map] at h
 cases e : L[i]? with
 | none => rw [e] at h; cases h
 | some z => rw [e] at h; exact ⟨z, rfl, (Option.some.inj h).symm⟩
structure Ls (H : Hp) (fl al cl : Addr) (fs as cs : List Str) : Prop where
 f : H fl = some (.lst (fs.map V.str))
 a : H al = some (.lst (as.map V.str))
 c : H cl = some (.lst (cs.map V.str))
 lf : 1 ≤ fs.length
 la : as.length = 3
 lc : 3 ≤ cs.length
theorem Ls.same {H H' : Hp} {fl al cl : Addr} {fs as cs : List Str} (L : Ls H fl al cl fs as cs) (e : Same H H') : Ls H' fl al cl fs as cs := ⟨e _ _ L.f, e _ _ L.a, e _ _ L.c, L.lf, L.la, L.lc⟩
def prs (L : List Sd) : List (Str × Int) := L.map fun z => (z.2.2.2.1, z.2.2.2.2)
abbrev Rw := Addr × Str × Int
def rfr (R : List Rw) : List V := R.map fun z => .ref z.1
def tupR (z : Rw) : HO := .tup [.str z.2.1, .int z.2.2]
theorem rfr_at {L : List Rw} {i : Nat} {x : V} (h : (rfr L)[i]? = some x) : ∃ z, L[i]? = some z ∧ x = .ref z.1 := by
 unfold rfr at h
 rw [List.getElem?_map] at h
 cases e : L[i]? with
 | none => rw [e] at h; cases h
 | some z => rw [e] at h; exact ⟨z, rfl, (Option.some.inj h).symm⟩
def kvD (P : List (Str × Int)) : List (Key × V) := (N21.firsts (P.map (·.1))).map fun c => (Sum.inr c, V.int (N21.tot c P))
theorem kvD_len (P : List (Str × Int)) : (kvD P).length ≤ P.length := by
 unfold kvD
 rw [List.length_map]
 have := N21.len_firsts (P.map (·.1))
 rw [List.length_map] at this
 exact this
theorem val_map (g : Str → V) (c : Str) : ∀ fs : List Str, valV (fs.map fun c => ((Sum.inr c : Key), g c)) (Sum.inr c) = if c ∈ fs then some (g c) else none
 | [] => rfl
 | d :: fs => by
   rw [List.map_cons]
   by_cases h : d = c
   · subst h
     rw [valV_pos rfl, if_pos List.mem_cons_self]
   · rw [valV_neg (by simpa using h), val_map g c fs]
     simp [List.mem_cons, Ne.symm h]
theorem put_map (g : Str → V) (c : Str) (v : V) (fs : List Str) : putK (fs.map fun c => ((Sum.inr c : Key), g c)) (Sum.inr c) v = (N21.add fs c).map fun d => ((Sum.inr d : Key), if d = c then v else g d) := by
 unfold putK N21.add
 rw [valV_any, val_map]
 by_cases h : c ∈ fs
 · rw [if_pos h, if_pos h]
   simp only [Option.isSome_some, if_true, List.map_map]
   refine List.map_congr_left fun d _ => ?_
   by_cases e : d = c
   · subst e
     simp
   · simp [e]
 · rw [if_neg h, if_neg h]
   simp only [Option.isSome_none, Bool.false_eq_true, if_false, List.map_append, List.map_cons, List.map_nil, if_true]
   congr 1
   refine List.map_congr_left fun d hd => ?_
   rw [if_neg (fun e => h (by rw [← e]; exact hd))]
theorem kvD_get (P : List (Str × Int)) (c : Str) : (valV (kvD P) (Sum.inr c)).getD (.int 0) = .int (N21.tot c P) := by
 unfold kvD
 rw [val_map (fun c => V.int (N21.tot c P))]
 by_cases h : c ∈ N21.firsts (P.map (·.1))
 · rw [if_pos h]
   rfl
 · rw [if_neg h, N21.tot_not (fun m => h (N21.mem_firsts.mpr m))]
   rfl
theorem kvD_put (P : List (Str × Int)) (c : Str) (am : Int) : putK (kvD P) (Sum.inr c) (.int (N21.tot c P + am)) = kvD (P ++ [(c, am)]) := by
 unfold kvD
 rw [put_map (fun c => V.int (N21.tot c P)), List.map_append]
 show _ = (N21.firsts (P.map (·.1) ++ [c])).map _
 rw [N21.firsts_snoc]
 refine List.map_congr_left fun d _ => ?_
 rw [N21.tot_snoc]
 by_cases e : d = c
 · subst e
   simp
 · simp [e, Ne.symm e]
theorem prs_snoc {L : List Sd} {i : Nat} {z : Sd} (h : L[i]? = some z) : prs (L.take (i + 1)) = prs (L.take i) ++ [(z.2.2.2.1, z.2.2.2.2)] := by
 unfold prs
 rw [List.take_succ, h, List.map_append]
 rfl
theorem prs_len (L : List Sd) : (prs L).length = L.length := List.length_map ..
theorem kv_zip (as : List Addr) (P : List (Str × Int)) (hl : as.length = (kvD P).length) : rfr (as.zip (N21.rs P)) = as.map V.ref ∧ (as.zip (N21.rs P)).map (·.2) = N21.rs P := by
 have hl2 : as.length = (N21.rs P).length := by
   rw [hl]
   unfold kvD N21.rs
   rw [List.length_map, List.length_map]
 constructor
 · unfold rfr
   have h : (as.zip (N21.rs P)).map Prod.fst = as := List.map_fst_zip (by omega)
   calc (as.zip (N21.rs P)).map (fun z => V.ref z.1) = ((as.zip (N21.rs P)).map Prod.fst).map V.ref := by rw [List.map_map]; rfl
     _ = as.map V.ref := by rw [h]
 · exact List.map_snd_zip (by omega)
def spRests : Sp := fun vs H Q _ => ∃ (l : Addr) (L : List Sd), vs = [.ref l] ∧ H l = some (.lst (rfs L)) ∧ (∀ z ∈ L, H z.1 = some (tupZ z)) ∧ L.length ≤ 60 ∧
 ∀ (p : Addr) (R : List Rw) H', Same H H' → H p = none → H' p = some (.lst (rfr R)) → R.map (·.2) = N21.rs (prs L) → (∀ z ∈ R, H' z.1 = some (tupR z)) → Q (.ref p) H'
abbrev Pl := Str × Str
abbrev Pr := Pl × Int × Int
abbrev Rw4 := Addr × Pr
def tup4 (z : Rw4) : HO := .tup [.str z.2.1.1, .str z.2.1.2, .int z.2.2.1, .int z.2.2.2]
def rf4 (L : List Rw4) : List V := L.map fun z => .ref z.1
abbrev Ln := Addr × Str × Pr
def tup5 (z : Ln) : HO := .tup [.str z.2.1, .str z.2.2.1.1, .str z.2.2.1.2, .int z.2.2.2.1, .int z.2.2.2.2]
def rf5 (L : List Ln) : List V := L.map fun z => .ref z.1
abbrev Kp := Addr × Addr × Addr × Pr
theorem rf4_len (L : List Rw4) : (rf4 L).length = L.length := List.length_map ..
theorem rf5_len (L : List Ln) : (rf5 L).length = L.length := List.length_map ..
theorem rf4_app (A B : List Rw4) : rf4 (A ++ B) = rf4 A ++ rf4 B := List.map_append ..
theorem rf5_app (A B : List Ln) : rf5 (A ++ B) = rf5 A ++ rf5 B := List.map_append ..
theorem ref_at {α : Type} {f : α → Addr} {L : List α} {i : Nat} {x : V} (h : (L.map fun z => V.ref (f z))[i]? = some x) : ∃ z, L[i]? = some z ∧ x = .ref (f z) := by
 rw [List.getElem?_map] at h
 cases e : L[i]? with
 | none => rw [e] at h; cases h
 | some z => rw [e] at h; exact ⟨z, rfl, (Option.some.inj h).symm⟩
theorem rf4_at {L : List Rw4} {i : Nat} {x : V} (h : (rf4 L)[i]? = some x) : ∃ z, L[i]? = some z ∧ x = .ref z.1 := ref_at h
theorem rf5_at {L : List Ln} {i : Nat} {x : V} (h : (rf5 L)[i]? = some x) : ∃ z, L[i]? = some z ∧ x = .ref z.1 := ref_at h
theorem take_nx {α : Type} {L : List α} {i : Nat} {z : α} (h : L[i]? = some z) : L.take (i + 1) = L.take i ++ [z] := by
 rw [List.take_succ, h]
 rfl
def pA (P : List Pr) : List (Pl × Int) := P.map fun p => (p.1, p.2.1)
def pW (P : List Pr) : List (Pl × Int) := P.map fun p => (p.1, p.2.2)
def kys (P : List Pr) : List Pl := N21.firsts (P.map (·.1))
def ta (P : List Pr) (k : Pl) : Int := N21.tot k (pA P)
def tw (P : List Pr) (k : Pl) : Int := N21.tot k (pW P)
def kk (k : Pl) : List Key := [Sum.inr k.1, Sum.inr k.2]
theorem kk_inj {k l : Pl} (h : kk k = kk l) : k = l := by
 unfold kk at h
 simp at h
 exact Prod.ext h.1 h.2
theorem ta_snoc (P : List Pr) (p : Pr) (k : Pl) : ta (P ++ [p]) k = ta P k + (if p.1 = k then p.2.1 else 0) := by
 unfold ta pA
 rw [List.map_append]
 exact N21.tot_snoc k (p.1, p.2.1) _
theorem tw_snoc (P : List Pr) (p : Pr) (k : Pl) : tw (P ++ [p]) k = tw P k + (if p.1 = k then p.2.2 else 0) := by
 unfold tw pW
 rw [List.map_append]
 exact N21.tot_snoc k (p.1, p.2.2) _
theorem kys_snoc (P : List Pr) (p : Pr) : kys (P ++ [p]) = N21.add (kys P) p.1 := by
 unfold kys
 rw [List.map_append]
 exact N21.firsts_snoc _ _
theorem ta_not {P : List Pr} {k : Pl} (h : k ∉ kys P) : ta P k = 0 ∧ tw P k = 0 := by
 have h1 : k ∉ P.map (·.1) := fun m => h (N21.mem_firsts.mpr m)
 constructor
 · refine N21.tot_not (P := pA P) ?_
   unfold pA
   rw [List.map_map]
   exact h1
 · refine N21.tot_not (P := pW P) ?_
   unfold pW
   rw [List.map_map]
   exact h1
def kvT (A : Pl → Addr) (P : List Pr) : List (List Key × V) := (kys P).map fun k => (kk k, V.ref (A k))
theorem kvT_len (A : Pl → Addr) (P : List Pr) : (kvT A P).length ≤ P.length := by
 unfold kvT kys
 rw [List.length_map]
 have := N21.len_firsts (P.map (·.1))
 rw [List.length_map] at this
 exact this
theorem val_mapT (g : Pl → V) (c : Pl) : ∀ fs : List Pl, valV (fs.map fun c => (kk c, g c)) (kk c) = if c ∈ fs then some (g c) else none
 | [] => rfl
 | d :: fs => by
   rw [List.map_cons]
   by_cases h : d = c
   · subst h
     rw [valV_pos rfl, if_pos List.mem_cons_self]
   · rw [valV_neg (fun e => h (kk_inj e)), val_mapT g c fs]
     simp [List.mem_cons, Ne.symm h]
theorem put_mapT (g : Pl → V) (c : Pl) (v : V) (fs : List Pl) : putK (fs.map fun c => (kk c, g c)) (kk c) v = (N21.add fs c).map fun d => (kk d, if d = c then v else g d) := by
 unfold putK N21.add
 rw [valV_any, val_mapT]
 by_cases h : c ∈ fs
 · rw [if_pos h, if_pos h]
   simp only [Option.isSome_some, if_true, List.map_map]
   refine List.map_congr_left fun d _ => ?_
   by_cases e : d = c
   · subst e
     simp
   · have e2 : ¬ kk d = kk c := fun z => e (kk_inj z)
     simp [e, e2]
 · rw [if_neg h, if_neg h]
   simp only [Option.isSome_none, Bool.false_eq_true, if_false, List.map_append, List.map_cons, List.map_nil, if_true]
   congr 1
   refine List.map_congr_left fun d hd => ?_
   rw [if_neg (fun e => h (by rw [← e]; exact hd))]
theorem kvT_val {A : Pl → Addr} {P : List Pr} {k : Pl} (h : k ∈ kys P) : valV (kvT A P) (kk k) = some (.ref (A k)) := by
 unfold kvT
 rw [val_mapT (fun k => V.ref (A k)), if_pos h]
theorem kvT_put (A : Pl → Addr) (P : List Pr) (p : Pr) (n : Addr) : putK (kvT A P) (kk p.1) (.ref n) = kvT (fun k => if k = p.1 then n else A k) (P ++ [p]) := by
 unfold kvT
 rw [put_mapT (fun k => V.ref (A k)), kys_snoc]
 refine List.map_congr_left fun d _ => ?_
 by_cases e : d = p.1
 · simp [e]
 · simp [e]
def two (x y : Int) : HO := .tup [.int x, .int y]
def Sums (H : Hp) (d : Addr) (P : List Pr) (A : Pl → Addr) : Prop := H d = some (.dT (kvT A P)) ∧ ∀ k ∈ kys P, H (A k) = some (two (ta P k) (tw P k))
theorem Sums.same {H H' : Hp} {d : Addr} {P : List Pr} {A : Pl → Addr} (S : Sums H d P A) (e : Same H H') : Sums H' d P A := ⟨e _ _ S.1, fun k hk => e _ _ (S.2 k hk)⟩
theorem Sums.get {H : Hp} {d z : Addr} {P : List Pr} {A : Pl → Addr} (S : Sums H d P A) (k : Pl) (hz : H z = some (two 0 0)) : ∃ s, (valV (kvT A P) (kk k)).getD (.ref z) = .ref s ∧ H s = some (two (ta P k) (tw P k)) := by
 by_cases h : k ∈ kys P
 · exact ⟨A k, by rw [kvT_val h]; rfl, S.2 k h⟩
 · refine ⟨z, ?_, ?_⟩
   · unfold kvT
     rw [val_mapT (fun k => V.ref (A k)), if_neg h]
     rfl
   · rw [(ta_not h).1, (ta_not h).2]
     exact hz
theorem Sums.put {H : Hp} {d n : Addr} {P : List Pr} {A : Pl → Addr} {p : Pr} (S : Sums H d P A) (hn : H n = some (two (ta P p.1 + p.2.1) (tw P p.1 + p.2.2))) : Sums (upd H d (.dT (putK (kvT A P) (kk p.1) (.ref n)))) d (P ++ [p]) (fun k => if k = p.1 then n else A k) := by
 refine ⟨by rw [upd_same, kvT_put], fun k hk => ?_⟩
 have keep : ∀ z o, H z = some (.tup o) → upd H d (.dT (putK (kvT A P) (kk p.1) (.ref n))) z = some (.tup o) := fun z o hz => by
   rw [upd_ne (ne_of hz S.1 (by intro z; cases z))]
   exact hz
 rw [ta_snoc, tw_snoc]
 by_cases e : k = p.1
 · subst e
   show upd H d (.dT (putK (kvT A P) (kk p.1) (.ref n))) (if p.1 = p.1 then n else A p.1) = _
   rw [if_pos rfl, if_pos rfl, if_pos rfl]
   exact keep _ _ hn
 · show upd H d (.dT (putK (kvT A P) (kk p.1) (.ref n))) (if k = p.1 then n else A k) = _
   rw [if_neg e, if_neg (Ne.symm e), if_neg (Ne.symm e), Int.add_zero, Int.add_zero]
   refine keep _ _ (S.2 k ?_)
   rw [kys_snoc] at hk
   unfold N21.add at hk
   split at hk
   · exact hk
   · rcases List.mem_append.mp hk with m | m
     · exact m
     · exact absurd (List.mem_singleton.mp m) e
theorem kvT_keys (A : Pl → Addr) (P : List Pr) : (kvT A P).map (·.1) = (kys P).map (fun k => [Sum.inr k.1, Sum.inr k.2]) := by
 unfold kvT
 rw [List.map_map]
 rfl
def nz (P : List Pr) (k : Pl) : Bool := !decide ([ta P k, tw P k] = [0, 0])
def fg (P : List Pr) (ks : List Pl) : List Pr := (ks.filter (nz P)).map fun k => (k, ta P k, tw P k)
def Fig (P : List Pr) (gs : List Pr) : Prop := ∃ ks : List Pl, ks.Perm (kys P) ∧ ks.Pairwise (fun a b => ltP a b = true) ∧ gs = fg P ks
theorem fig_one {P gs hs : List Pr} (h1 : Fig P gs) (h2 : Fig P hs) : gs = hs := by
 obtain ⟨ks, p1, w1, rfl⟩ := h1
 obtain ⟨ls, p2, w2, rfl⟩ := h2
 rw [ltP_uniq (p1.trans p2.symm) w1 w2]
theorem fg_nx {P : List Pr} {ks : List Pl} {i : Nat} {k : Pl} (h : ks[i]? = some k) : fg P (ks.take (i + 1)) = if nz P k = true then fg P (ks.take i) ++ [(k, ta P k, tw P k)] else fg P (ks.take i) := by
 unfold fg
 rw [take_nx h, List.filter_append, List.map_append]
 by_cases z : nz P k = true
 · rw [if_pos z, List.filter_cons_of_pos z]
   rfl
 · rw [if_neg z, List.filter_cons_of_neg z]
   simp
theorem tup_keepL {H : Hp} {p : Addr} {xs ys : List V} {z : Addr} {o : List V} (h : H z = some (.tup o)) (hp : H p = some (.lst xs)) : upd H p (.lst ys) z = some (.tup o) := by
 rw [upd_ne (ne_of h hp (by intro z; cases z))]
 exact h
theorem join1 {α : Type} {G : Prop} (F P : α → Prop) (hm : (∀ x, F x → P x) → G) (hr : ∀ x, F x → P x) : G := hm hr
def R4 (H : Hp) (R : List Rw4) : Prop := ∀ z ∈ R, H z.1 = some (tup4 z)
def R5 (H : Hp) (L : List Ln) : Prop := ∀ z ∈ L, H z.1 = some (tup5 z)
theorem R4.same {H H' : Hp} {R : List Rw4} (h : R4 H R) (e : Same H H') : R4 H' R := fun z hz => e _ _ (h z hz)
theorem R5.same {H H' : Hp} {R : List Ln} (h : R5 H R) (e : Same H H') : R5 H' R := fun z hz => e _ _ (h z hz)
def spPut : Sp := fun vs H Q _ => ∃ (l : Addr) (R : List Rw4), vs = [.ref l] ∧ H l = some (.lst (rf4 R)) ∧ R4 H R ∧ R.length ≤ 400 ∧ (kys (R.map (·.2))).length ≤ 60 ∧
 ∀ (p : Addr) (F : List Rw4) H', Same H H' → H p = none → H' p = some (.lst (rf4 F)) → R4 H' F → Fig (R.map (·.2)) (F.map (·.2)) → Q (.ref p) H'
def spFigs : Sp := fun vs H Q _ => ∃ (l : Addr) (L : List Ln), vs = [.ref l] ∧ H l = some (.lst (rf5 L)) ∧ R5 H L ∧ L.length ≤ 200 ∧ (kys (L.map (·.2.2))).length ≤ 60 ∧
 ∀ (p : Addr) (F : List Rw4) H', Same H H' → H p = none → H' p = some (.lst (rf4 F)) → R4 H' F → Fig (L.map (·.2.2)) (F.map (·.2)) → Q (.ref p) H'
def RK (H : Hp) (Z : List Kp) : Prop := ∀ z ∈ Z, H z.1 = some (.tup [.ref z.2.1, .ref z.2.2.1]) ∧ H z.2.1 = some (.tup [.str z.2.2.2.1.1, .str z.2.2.2.1.2]) ∧ H z.2.2.1 = some (two z.2.2.2.2.1 z.2.2.2.2.2)
theorem RK.same {H H' : Hp} {R : List Kp} (h : RK H R) (e : Same H H') : RK H' R := fun z hz => ⟨e _ _ (h z hz).1, e _ _ (h z hz).2.1, e _ _ (h z hz).2.2⟩
def L26 : Str := "abcdefghijklmnopqrstuvwxyz"
theorem l26_at {i : Int} (h0 : 0 ≤ i) (h1 : i < 26) : atI L26.cps.toList i = some (97 + i.toNat) := by
 obtain ⟨n, rfl⟩ := Int.eq_ofNat_of_zero_le h0
 have hn : n < 26 := by omega
 have all : ∀ n, n < 26 → L26.cps.toList[n]? = some (97 + n) := by decide +kernel
 exact atI_nat (all n hn)
theorem l26_len : L26.length ≤ sizeLine := by decide +kernel
def sgn (i : Int) : Str := ⟨#[97 + i.toNat]⟩
theorem sgn_inj {i j : Int} (h : sgn i = sgn j) : i.toNat = j.toNat := by
 have e := congrArg (fun s => s.cps.toList) h
 simp [sgn] at e
 exact e
def nmK (b : Str) (at_ F : Int) (k : Nat) : Str := Txt.slice b none (some at_) ++ sgn ((F + (0 + (k : Int))) % 26) ++ Txt.slice b (some (at_ + 1)) none
theorem nmK_len {b : Str} {at_ F : Int} {k : Nat} (h : b.length ≤ 8) : (nmK b at_ F k).length ≤ 40 := by
 unfold nmK
 rw [str_len_app, str_len_app]
 have z1 := Txt.slice_le b none (some at_)
 have z2 := Txt.slice_le b (some (at_ + 1)) none
 have zs : ∀ i, (sgn i).length = 1 := fun _ => rfl
 rw [zs]
 omega
theorem nmK_ne {b : Str} {at_ F : Int} {j k : Nat} (h : j < k) (hk : k < 3) : nmK b at_ F j ≠ nmK b at_ F k := fun e => by
 have := sgn_inj (str_app_inj e)
 omega
def spNames : Sp := fun vs H Q _ => ∃ c : Int, vs = [.int c] ∧ ∀ l x y z H', Same H H' → H' l = some (.lst [.str x, .str y, .str z]) → x ≠ y → x.length ≤ 40 → y.length ≤ 40 → z.length ≤ 40 → Q (.ref l) H'
def AK (x y z : Str) : List Pl := [x, y, z, ".due." ++ z, "*bridge", "*rounding"].flatMap fun a => [(a, z), (a, "one")]
def prsL (L : List Ln) : List (Str × Int) := L.map fun z => (z.2.2.1.2, z.2.2.2.1)
def wrs (L : List Ln) : List Int := L.map fun z => z.2.2.2.2
structure Good (f : Str) (L : List Ln) : Prop where
 f : ∀ z ∈ L, z.2.1 = f
 c : ∀ k, N21.tot k (prsL L) = 0
 w : (wrs L).sum = 0
 n : L.length ≤ 4
def spAm : Sp := fun vs H Q _ => ∃ c : Int, vs = [.int c] ∧ ∀ a : Int, Q (.int a) H
def spLns : Sp := fun vs H Q _ => ∃ (nl : Addr) (fm x y z : Str) (w c : Int), vs = [.str fm, .ref nl, .int w, .int c] ∧ H nl = some (.lst [.str x, .str y, .str z]) ∧ x.length ≤ 40 ∧ y.length ≤ 40 ∧ z.length ≤ 40 ∧
 ∀ (l : Addr) (L : List Ln) H', Same H H' → H l = none → H' l = some (.lst (rf5 L)) → R5 H' L → Good fm L → (∀ v ∈ L, v.2.2.1 ∈ AK x y z) → Q (.ref l) H'
def spMon : Sp := fun vs H Q _ => ∃ d : Int, vs = [.int d] ∧ Q (.int (d / 30)) H
def spChk : Sp := fun vs H Q _ => ∃ (f : Str) (l : Addr) (L : List Ln), vs = [.str f, .ref l] ∧ H l = some (.lst (rf5 L)) ∧ R5 H L ∧ Good f L ∧ ∀ H', Same H H' → Q .non H'
structure KB (C : Addr) (H : Hp) (p kl pl fl : Addr) (f : Str) : Prop where
 ob : ∃ dx fs, H p = some (.ins C dx fs) ∧ fs.lookup ("book" : Str) = some (.str f) ∧ fs.lookup ("kept" : Str) = some (.ref kl) ∧ fs.lookup ("papers" : Str) = some (.ref pl) ∧ fs.lookup ("in_force" : Str) = some (.ref fl) ∧ ∀ m ∈ (["may_enter", "post", "spots", "lines_upto", "figures", "closed", "close", "reopen", "entries", "told_papers", "standing"] : List Str), fs.lookup m = none
def spClo (C : Addr) : Sp := fun vs H Q _ => ∃ (p kl pl fl : Addr) (f : Str) (xs : List V), vs = [.ref p] ∧ KB C H p kl pl fl f ∧ H fl = some (.lst xs) ∧ Q (.int xs.length) H
abbrev En := Addr × Int × Int × Addr × List Ln
def rfE (E : List En) : List V := E.map fun z => .ref z.1
def EnL (H : Hp) (E : List En) : Prop := ∀ e ∈ E, H e.1 = some (.tup [.int e.2.1, .int e.2.2.1, .ref e.2.2.2.1]) ∧ H e.2.2.2.1 = some (.tup (rf5 e.2.2.2.2)) ∧ R5 H e.2.2.2.2 ∧ e.2.2.2.2.length ≤ 4
theorem EnL.same {H H' : Hp} {E : List En} (h : EnL H E) (e : Same H H') : EnL H' E := fun z hz => ⟨e _ _ (h z hz).1, e _ _ (h z hz).2.1, (h z hz).2.2.1.same e, (h z hz).2.2.2⟩
abbrev Dl := List (Int × List Ln)
def dl (E : List En) : Dl := E.map fun e => (e.2.1, e.2.2.2.2)
def upto (D : Dl) (m : Int) : List Ln := D.flatMap fun d => if d.1 / 30 ≤ m then d.2 else []
theorem upto_nx {D : Dl} {i : Nat} {d : Int × List Ln} {m : Int} (h : D[i]? = some d) : upto (D.take (i + 1)) m = upto (D.take i) m ++ (if d.1 / 30 ≤ m then d.2 else []) := by
 unfold upto
 rw [take_nx h, List.flatMap_append]
 simp
theorem upto_len {D : Dl} {m : Int} (h : ∀ d ∈ D, d.2.length ≤ 4) : (upto D m).length ≤ 4 * D.length := by
 induction D with
 | nil => exact Nat.le_refl _
 | cons d r ih =>
   have a := ih fun z hz => h z (List.mem_cons_of_mem _ hz)
   have b := h d List.mem_cons_self
   unfold upto at a ⊢
   rw [List.flatMap_cons, List.length_append, List.length_cons]
   split
   · omega
   · show 0 + _ ≤ _
     omega
abbrev Tp := Addr × Ln
def rfT (T : List Tp) : List V := T.map fun z => .ref z.1
def TpL (H : Hp) (T : List Tp) : Prop := ∀ z ∈ T, ∃ s, H z.1 = some (.tup [.ref s, .ref z.2.1])
def spSpots (C : Addr) : Sp := fun vs H Q _ => ∃ (p kl pl fl : Addr) (f : Str) (m : Int) (E : List En), vs = [.ref p, .int m] ∧ KB C H p kl pl fl f ∧ H kl = some (.lst (rfE E)) ∧ EnL H E ∧ E.length ≤ 20 ∧
 ∀ (r : Addr) (T : List Tp) H', Same H H' → H' r = some (.lst (rfT T)) → TpL H' T → T.map (·.2) = upto (dl E) m → Q (.ref r) H'
def spUpto (C : Addr) : Sp := fun vs H Q _ => ∃ (p kl pl fl : Addr) (f : Str) (m : Int) (E : List En), vs = [.ref p, .int m] ∧ KB C H p kl pl fl f ∧ H kl = some (.lst (rfE E)) ∧ EnL H E ∧ E.length ≤ 20 ∧
 ∀ (r : Addr) H', Same H H' → H' r = some (.lst (rf5 (upto (dl E) m))) → Q (.ref r) H'
def spFigures (C : Addr) : Sp := fun vs H Q _ => ∃ (p kl pl fl : Addr) (f : Str) (m : Int) (E : List En), vs = [.ref p, .int m] ∧ KB C H p kl pl fl f ∧ H kl = some (.lst (rfE E)) ∧ EnL H E ∧ E.length ≤ 20 ∧ (kys ((upto (dl E) m).map (·.2.2))).length ≤ 60 ∧
 ∀ (r : Addr) (F : List Rw4) H', Same H H' → H r = none → H' r = some (.lst (rf4 F)) → R4 H' F → Fig ((upto (dl E) m).map (·.2.2)) (F.map (·.2)) → Q (.ref r) H'
abbrev Pp := Addr × Addr × List Rw4
def rfP (Z : List Pp) : List V := Z.map fun z => .ref z.1
def Pap (H : Hp) (f : Str) (k t : Nat) (z : Pp) : Prop := H z.1 = some (.tup [.str f, .int k, .int t, .ref z.2.1]) ∧ H z.2.1 = some (.lst (rf4 z.2.2)) ∧ R4 H z.2.2
theorem Pap.same {H H' : Hp} {f : Str} {k t : Nat} {z : Pp} (h : Pap H f k t z) (e : Same H H') : Pap H' f k t z := ⟨e _ _ h.1, e _ _ h.2.1, h.2.2.same e⟩
def gs (z : Pp) : List Pr := z.2.2.map (·.2)
def spCopy : Sp := fun vs H Q _ => ∃ (f : Str) (k t : Nat) (z : Pp), vs = [.ref z.1] ∧ Pap H f k t z ∧ ∀ y H', Same H H' → H y.1 = none → H y.2.1 = none → Pap H' f k t y → gs y = gs z → Q (.ref y.1) H'
def spClose (C : Addr) : Sp := fun vs H Q _ => ∃ (p kl pl fl : Addr) (f : Str) (E : List En) (ps : List V) (Z : List Pp), vs = [.ref p] ∧ KB C H p kl pl fl f ∧ H kl = some (.lst (rfE E)) ∧ EnL H E ∧ E.length ≤ 20 ∧ (kys ((upto (dl E) (Z.length : Int)).map (·.2.2))).length ≤ 60 ∧ H pl = some (.lst ps) ∧ H fl = some (.lst (rfP Z)) ∧ ps.length ≤ 60 ∧ Z.length ≤ 60 ∧ pl ≠ fl ∧
 ∀ (z y : Pp) H', (∀ b o, H b = some o → b ≠ pl → b ≠ fl → H' b = some o) → H' pl = some (.lst (ps ++ [.ref z.1])) → H' fl = some (.lst (rfP (Z ++ [z]))) → Pap H' f Z.length (ps.length + 1) z → Pap H' f Z.length (ps.length + 1) y → gs y = gs z → Fig ((upto (dl E) Z.length).map (·.2.2)) (gs z) → H z.2.1 = none → H y.2.1 = none → y.2.1 ≠ z.2.1 → Q (.ref y.1) H'
theorem KB.same {C : Addr} {H H' : Hp} {p kl pl fl : Addr} {f : Str} (h : KB C H p kl pl fl f) (e : Same H H') : KB C H' p kl pl fl f := by
 obtain ⟨dx, fs, hp, r⟩ := h.ob
 exact ⟨dx, fs, e _ _ hp, r⟩
def xf2 (b m : V) : List (Str × V) := putF "month" m (putF "book" b [])
def spX2 (C : Addr) : Sp := fun vs H Q _ => ∃ (x : Addr) (u0 u1 : V), vs = [.ref x, u0, u1] ∧ H x = some (bareO x (.ref C) none) ∧ ∀ d H', H d = none → d ≠ x → H' d = some (.xd (xf2 u0 u1)) → H' x = some (bareO x (.ref C) (some d)) → (∀ y o, H y = some o → y ≠ x → H' y = some o) → Q .non H'
theorem after_x {H H' : Hp} {x : Addr} {o : HO} (hx0 : H x = none) (keep : ∀ y o', upd H x o y = some o' → y ≠ x → H' y = some o') : Same H (fun b => if b = x then none else H' b) := fun b o' hb => by
 have n := ne_of_none hb hx0
 show (if b = x then none else H' b) = some o'
 rw [if_neg n]
 exact keep b o' (by rw [upd_ne n]; exact hb) n
theorem some_ne {H : Hp} {a b : Addr} {o : HO} (h : H a = some o) (h' : H b = none) : a ≠ b := fun z => by rw [z, h'] at h; cases h
def spMayE (C CC : Addr) : Sp := fun vs H Q E => ∃ (p kl pl fl : Addr) (f : Str) (xs : List V) (d : Int), vs = [.ref p, .int d] ∧ KB C H p kl pl fl f ∧ H fl = some (.lst xs) ∧
 (d / 30 < (xs.length : Int) → ∀ e H', Same H H' → H' e = some (.xd (xf2 (.str f) (.int (d / 30)))) → E (.ref CC) (some e) H') ∧ ((xs.length : Int) ≤ d / 30 → Q .non H)
def spPostE (C CC : Addr) : Sp := fun vs H Q E => ∃ (p kl pl fl : Addr) (f : Str) (xs es : List V) (d ab : Int) (l : Addr) (L : List Ln), vs = [.ref p, .int d, .int ab, .ref l] ∧ KB C H p kl pl fl f ∧ H fl = some (.lst xs) ∧ H kl = some (.lst es) ∧ es.length ≤ 100 ∧ H l = some (.lst (rf5 L)) ∧ R5 H L ∧ Good f L ∧
 (d / 30 < (xs.length : Int) → ∀ e H', Same H H' → H' e = some (.xd (xf2 (.str f) (.int (d / 30)))) → E (.ref CC) (some e) H') ∧
 ((xs.length : Int) ≤ d / 30 → ∀ (e t : Addr) H', (∀ b o, H b = some o → b ≠ kl → H' b = some o) → H' kl = some (.lst (es ++ [.ref e])) → H' e = some (.tup [.int d, .int ab, .ref t]) → H' t = some (.tup (rf5 L)) → Q (.int es.length) H')
def HdB (H : Hp) (v : V) (f : Str) (k t : Nat) (g : List Pr) (b : Bool) : Prop :=
 (b = false ∧ (v = .non ∨ (∃ s, v = .str s) ∨ (∃ a xs, v = .ref a ∧ H a = some (.lst xs)) ∨ ∃ (a : Addr) (g' : Str) (m' t' : Int), v = .ref a ∧ H a = some (.tup [.str g', .int m', .int t']))) ∨
 ∃ (a gl : Addr) (g' : Str) (m' t' : Int) (G : List Rw4), v = .ref a ∧ H a = some (.tup [.str g', .int m', .int t', .ref gl]) ∧ H gl = some (.lst (rf4 G)) ∧ R4 H G ∧ b = decide (g' = f ∧ m' = k ∧ t' = t ∧ G.map (·.2) = g)
theorem HdB.same {H H' : Hp} {v : V} {f : Str} {k t : Nat} {g : List Pr} {b : Bool} (h : HdB H v f k t g b) (e : Same H H') : HdB H' v f k t g b := by
 rcases h with ⟨hb, h⟩ | ⟨a, gl, g', m', t', G, rfl, h1, h2, h3, hb⟩
 · refine .inl ⟨hb, ?_⟩
   rcases h with h | h | ⟨a, xs, rfl, h⟩ | ⟨a, g', m', t', rfl, h⟩
   · exact .inl h
   · exact .inr (.inl h)
   · exact .inr (.inr (.inl ⟨a, xs, rfl, e _ _ h⟩))
   · exact .inr (.inr (.inr ⟨a, g', m', t', rfl, e _ _ h⟩))
 · exact .inr ⟨a, gl, g', m', t', G, rfl, e _ _ h1, e _ _ h2, h3.same e, hb⟩
def spReoE (C CB : Addr) : Sp := fun vs H Q E => ∃ (p kl pl fl : Addr) (f : Str) (v : V) (Z : List Pp), vs = [.ref p, v] ∧ KB C H p kl pl fl f ∧ H fl = some (.lst (rfP Z)) ∧ Z.length ≤ 60 ∧
 (Z = [] → ∀ e H', Same H H' → H' e = some (.xd (xf2 (.str f) (.int (-1)))) → E (.ref CB) (some e) H') ∧
 (∀ Z0 z, Z = Z0 ++ [z] → ∃ (k t : Nat) (b : Bool), Pap H f k t z ∧ HdB H v f k t (gs z) b ∧ (b = false → ∀ e H', Same H H' → H' e = some (.xd (xf2 (.str f) (.int (Z0.length : Int)))) → E (.ref CB) (some e) H') ∧
   (b = true → ∀ H', (∀ b o, H b = some o → b ≠ fl → H' b = some o) → H' fl = some (.lst (rfP Z0)) → Q .non H'))
theorem R4_flat (z : Rw4) : ∀ v ∈ [V.str z.2.1.1, .str z.2.1.2, .int z.2.2.1, .int z.2.2.2], flatV v = true := by
 intro v hv
 simp only [List.mem_cons, List.not_mem_nil, or_false] at hv
 rcases hv with rfl | rfl | rfl | rfl <;> rfl
theorem tupB_rw (z w : Rw4) : tupB [V.str z.2.1.1, .str z.2.1.2, .int z.2.2.1, .int z.2.2.2] [V.str w.2.1.1, .str w.2.1.2, .int w.2.2.1, .int w.2.2.2] = decide (z.2 = w.2) := by
 obtain ⟨a, ⟨b, c⟩, d, e⟩ := z
 obtain ⟨a', ⟨b', c'⟩, d', e'⟩ := w
 show (((b == b') && ((c == c') && ((d == d') && ((e == e') && true)))) && true) = _
 rw [Bool.eq_iff_iff]
 simp
 constructor
 · rintro ⟨h1, h2, h3, h4⟩
   exact ⟨⟨h1, h2⟩, h3, h4⟩
 · rintro ⟨⟨h1, h2⟩, h3, h4⟩
   exact ⟨h1, h2, h3, h4⟩
theorem rows_eqB {K : PySem.W.Frag} {H : Hp} {G F : List Rw4} (hG : R4 H G) (hF : R4 H F) : ∀ (j : Nat) x y, (rf4 G)[j]? = some x → (rf4 F)[j]? = some y → eqTB K H x y (decide ((G.map (·.2))[j]? = (F.map (·.2))[j]?)) := by
 intro j x y h1 h2
 obtain ⟨z, hz, rfl⟩ := rf4_at h1
 obtain ⟨w, hw, rfl⟩ := rf4_at h2
 have tz := hG z (List.mem_of_getElem? hz)
 have tw := hF w (List.mem_of_getElem? hw)
 refine ⟨z.1, w.1, _, _, rfl, rfl, SqT.of tz, SqT.of tw, R4_flat z, R4_flat w, fun e => ?_, ?_⟩
 · rw [e, tw] at tz
   exact (HO.tup.inj (Option.some.inj tz)).symm
 · rw [tupB_rw, List.getElem?_map, List.getElem?_map, hz, hw]
   simp
theorem lstB_rows {G F : List Rw4} : lstB (rf4 G) (rf4 F) (fun j => decide ((G.map (·.2))[j]? = (F.map (·.2))[j]?)) = decide (G.map (·.2) = F.map (·.2)) := by
 unfold lstB
 rw [rf4_len, rf4_len, Bool.eq_iff_iff, Bool.and_eq_true, decide_eq_true_eq, List.all_eq_true, beq_iff_eq]
 constructor
 · rintro ⟨h1, h2⟩
   refine List.ext_getElem? fun j => ?_
   by_cases hj : j < G.length
   · exact of_decide_eq_true (h2 j (List.mem_range.mpr hj))
   · rw [List.getElem?_eq_none (by rw [List.length_map]; omega), List.getElem?_eq_none (by rw [List.length_map]; omega)]
 · intro h
   refine ⟨?_, fun j _ => by rw [h]; exact decide_eq_true rfl⟩
   have := congrArg List.length h
   rw [List.length_map, List.length_map] at this
   exact this
theorem pp_op {K : PySem.W.Frag} {H : Hp} {f : Str} {k t : Nat} {z : Pp} {a gl : Addr} {g' : Str} {m' t' : Int} {G : List Rw4} (hz : Pap H f k t z) (h1 : H a = some (.tup [.str g', .int m', .int t', .ref gl])) (h2 : H gl = some (.lst (rf4 G))) (h3 : R4 H G) : PB K H (.ref a) (.ref z.1) (decide (g' = f ∧ m' = k ∧ t' = t ∧ G.map (·.2) = gs z)) := by
 refine ⟨a, z.1, _, _, fun j => match j with | 0 => decide (g' = f) | 1 => decide (m' = (k : Int)) | 2 => decide (t' = (t : Int)) | _ => decide (G.map (·.2) = gs z), rfl, rfl, SqT.of h1, SqT.of hz.1, fun j x y e1 e2 => ?_, ?_⟩
 · rcases j with _ | _ | _ | _ | j
   · cases e1; cases e2
     refine .inl ⟨rfl, rfl, ?_⟩
     show decide (g' = f) = (g' == f)
     rw [Bool.eq_iff_iff]
     simp
   · cases e1; cases e2
     refine .inl ⟨rfl, rfl, ?_⟩
     show decide (m' = (k : Int)) = (m' == (k : Int))
     rw [Bool.eq_iff_iff]
     simp
   · cases e1; cases e2
     refine .inl ⟨rfl, rfl, ?_⟩
     show decide (t' = (t : Int)) = (t' == (t : Int))
     rw [Bool.eq_iff_iff]
     simp
   · cases e1; cases e2
     refine .inr ⟨gl, z.2.1, _, _, _, rfl, rfl, SqL.of h2, SqL.of hz.2.1, rows_eqB h3 hz.2.2, fun e => ?_, ?_⟩
     · subst e
       have := hz.2.1
       rw [h2] at this
       have h5 := HO.lst.inj (Option.some.inj this)
       rw [lstB_rows]
       refine decide_eq_true ?_
       refine List.ext_getElem? fun j => ?_
       have h6 := congrArg (fun l => l[j]?) h5
       unfold rf4 at h6
       simp only [List.getElem?_map] at h6 ⊢
       cases hG : G[j]? with
       | none =>
         rw [hG] at h6
         cases hZ : z.2.2[j]? with
         | none => rfl
         | some w =>
           rw [hZ] at h6
           cases h6
       | some w =>
         rw [hG] at h6
         cases hZ : z.2.2[j]? with
         | none =>
           rw [hZ] at h6
           cases h6
         | some u =>
           rw [hZ] at h6
           have h7 := V.ref.inj (Option.some.inj h6)
           have a1 := h3 w (List.mem_of_getElem? hG)
           have a2 := hz.2.2 u (List.mem_of_getElem? hZ)
           rw [h7] at a1
           unfold tup4 at a1 a2
           rw [a2] at a1
           have h8 := HO.tup.inj (Option.some.inj a1)
           obtain ⟨w1, ⟨w2, w3⟩, w4, w5⟩ := w
           obtain ⟨u1, ⟨u2, u3⟩, u4, u5⟩ := u
           simp only [List.cons.injEq, V.str.injEq, V.int.injEq, and_true] at h8
           obtain ⟨b1, b2, b3, b4⟩ := h8
           subst b1 b2 b3 b4
           rfl
     · show decide _ = _
       rw [lstB_rows]
       rfl
   · cases e1
 · rw [Bool.eq_iff_iff]
   show _ ↔ ((decide (g' = f) && (decide (m' = (k : Int)) && (decide (t' = (t : Int)) && (decide (G.map (·.2) = gs z) && true)))) && true) = true
   simp
theorem hd_op {K : PySem.W.Frag} {H : Hp} {v : V} {f : Str} {k t : Nat} {z : Pp} {b : Bool} (hz : Pap H f k t z) (h : HdB H v f k t (gs z) b) : (b = false ∧ Odd K H v ∧ ∃ c ys, V.ref z.1 = .ref c ∧ SqT K H c ys) ∨ PB K H v (.ref z.1) b := by
 rcases h with ⟨hb, h⟩ | ⟨a, gl, g', m', t', G, rfl, h1, h2, h3, rfl⟩
 · rcases h with h | h | ⟨a, xs, rfl, h⟩ | ⟨a, g', m', t', rfl, h⟩
   · exact .inl ⟨hb, .inl h, _, _, rfl, SqT.of hz.1⟩
   · exact .inl ⟨hb, .inr (.inl h), _, _, rfl, SqT.of hz.1⟩
   · exact .inl ⟨hb, .inr (.inr ⟨a, xs, rfl, SqL.of h⟩), _, _, rfl, SqT.of hz.1⟩
   · refine .inr ⟨a, z.1, _, _, fun j => match ([.str g', .int m', .int t'] : List V)[j]?, ([.str f, .int k, .int t, .ref z.2.1] : List V)[j]? with | some x, some y => eqV x y | _, _ => true, rfl, rfl, SqT.of h, SqT.of hz.1, fun j x y e1 e2 => ?_, ?_⟩
     · refine .inl ?_
       rcases j with _ | _ | _ | j
       · cases e1; cases e2
         exact ⟨rfl, rfl, rfl⟩
       · cases e1; cases e2
         exact ⟨rfl, rfl, rfl⟩
       · cases e1; cases e2
         exact ⟨rfl, rfl, rfl⟩
       · cases e1
     · rw [hb]
       show false = (_ && (3 == 4))
       rw [show ((3 : Nat) == 4) = false from rfl, Bool.and_false]
 · exact .inr (pp_op hz h1 h2 h3)
abbrev Pg := Str × Nat × Nat × List Pr
def Pa (H : Hp) (g : Pg) (z : Pp) : Prop := Pap H g.1 g.2.1 g.2.2.1 z ∧ gs z = g.2.2.2
theorem Pa.same {H H' : Hp} {g : Pg} {z : Pp} (h : Pa H g z) (e : Same H H') : Pa H' g z := ⟨h.1.same e, h.2⟩
def PaG (H : Hp) (G : List Pg) (Z : List Pp) : Prop := Z.length = G.length ∧ ∀ (i : Nat) g z, G[i]? = some g → Z[i]? = some z → Pa H g z
theorem PaG.same {H H' : Hp} {G : List Pg} {Z : List Pp} (h : PaG H G Z) (e : Same H H') : PaG H' G Z := ⟨h.1, fun i g z a b => (h.2 i g z a b).same e⟩
theorem PaG.nil (H : Hp) : PaG H [] [] := ⟨rfl, fun i g z h => nomatch h⟩
theorem PaG.app {H : Hp} {G : List Pg} {Z : List Pp} {g : Pg} {z : Pp} (h : PaG H G Z) (h1 : Pa H g z) : PaG H (G ++ [g]) (Z ++ [z]) := by
 refine ⟨by rw [List.length_append, List.length_append, h.1]; rfl, fun i a b ha hb => ?_⟩
 rcases Nat.lt_trichotomy i G.length with l | l | l
 · rw [List.getElem?_append_left l] at ha
   rw [List.getElem?_append_left (by rw [h.1]; exact l)] at hb
   exact h.2 i a b ha hb
 · rw [List.getElem?_append_right (by omega), show i - G.length = 0 by omega] at ha
   rw [List.getElem?_append_right (by rw [h.1]; omega), show i - Z.length = 0 by rw [h.1]; omega] at hb
   cases ha
   cases hb
   exact h1
 · rw [List.getElem?_eq_none (by rw [List.length_append]; show G.length + 1 ≤ i; omega)] at ha
   cases ha
def spToldG (C : Addr) : Sp := fun vs H Q _ => ∃ (p kl pl fl : Addr) (f : Str) (Z : List Pp) (G : List Pg), vs = [.ref p] ∧ KB C H p kl pl fl f ∧ H pl = some (.lst (rfP Z)) ∧ PaG H G Z ∧ Z.length ≤ 60 ∧
 ∀ (r : Addr) (Y : List Pp) H', Same H H' → H r = none → H' r = some (.lst (rfP Y)) → PaG H' G Y → (∀ y ∈ Y, H y.2.1 = none) → Q (.ref r) H'
def spStandG (C : Addr) : Sp := fun vs H Q _ => ∃ (p kl pl fl : Addr) (f : Str) (Z : List Pp) (G : List Pg), vs = [.ref p] ∧ KB C H p kl pl fl f ∧ H fl = some (.lst (rfP Z)) ∧ PaG H G Z ∧ Z.length ≤ 60 ∧
 ∀ (r : Addr) (Y : List Pp) H', Same H H' → H r = none → H' r = some (.lst (rfP Y)) → PaG H' G Y → (∀ y ∈ Y, H y.2.1 = none) → Q (.ref r) H'
theorem rfE_len (L : List En) : (rfE L).length = L.length := List.length_map ..
theorem rfT_len (L : List Tp) : (rfT L).length = L.length := List.length_map ..
theorem rfP_len (L : List Pp) : (rfP L).length = L.length := List.length_map ..
theorem rfE_at {L : List En} {i : Nat} {x : V} (h : (rfE L)[i]? = some x) : ∃ z, L[i]? = some z ∧ x = .ref z.1 := ref_at h
theorem rfT_at {L : List Tp} {i : Nat} {x : V} (h : (rfT L)[i]? = some x) : ∃ z, L[i]? = some z ∧ x = .ref z.1 := ref_at h
theorem rfP_at {L : List Pp} {i : Nat} {x : V} (h : (rfP L)[i]? = some x) : ∃ z, L[i]? = some z ∧ x = .ref z.1 := ref_at h
theorem rfP_app (A B : List Pp) : rfP (A ++ B) = rfP A ++ rfP B := List.map_append ..
theorem rfT_app (A B : List Tp) : rfT (A ++ B) = rfT A ++ rfT B := List.map_append ..
theorem sc_rests_of : FnScope ["sides", "rests", "firm", "account", "coin", "amount"] ["sides"] (defScope s_rests_of) := ⟨rfl, rfl, rfl, by decide +kernel, rfl, by decide +kernel, by decide +kernel⟩
theorem ok_rests_of (D : Def K mg "rests_of" s_rests_of .none) (z_list : mg "list" = none) : Cal P w K mg base CX0 true 1 "rests_of" ["sides"] [] spRests := by
 obtain ⟨f, fd, F, hm⟩ := D
 refine ⟨f, fd, _, F.ok sc_rests_of (fun vs H Q E h => ?_) (fun cdv A outer s H vs Q E hr h => ?_), hm, F.kp, (F.binds fun _ _ _ _ _ _ us hl => match us, hl with | [_], _ => rfl), .nil, F.binds fun _ _ _ _ _ _ us hl => match us, hl with | [_], _ => rfl⟩
 · obtain ⟨l, L, rfl, hl, hL, hlen, q⟩ := h
   rfl
 obtain ⟨l, L, rfl, hl, hL, hlen, q⟩ := h
 have nd := sc_rests_of.nd
 refine ⟨_, (pss_cons (ps_set (i := 1) nd rfl (Or.inl rfl) pe_dnewK)
   (pss_cons (ps_for PassesOwn.never rfl (pi_list (pv 0)) (pg_tup rfl (pgs_cons (pg_name (i := 2) nd rfl (Or.inl rfl)) (pgs_cons (pg_name (i := 3) nd rfl (Or.inl rfl)) (pgs_cons (pg_name (i := 4) nd rfl (Or.inl rfl)) (pgs_cons (pg_name (i := 5) nd rfl (Or.inl rfl)) pgs_nil))))) (pss_one (ps_dput (hu_of hr) (pv 1) (pv 4) (pe_op op_add (pe_dget2 (hu_of hr) (pv 1) (pv 4) pe_int ⟨rfl, rfl, rfl, rfl⟩) (pv 5)) rfl)))
   (pss_one (ps_ret (pe_callTy (call_list_items rfl) rfl z_list bt_list (pa_cons (pe_bm0 PySem.F.plainAttrs_dict PySem.F.slot_dict_items PySem.F.type_dict_items mt_items (pv 1)) pa_nil)))))), ?_⟩
 have hline : 600 ≤ sizeLine := by decide
 refine fun d hd => ?_
 have e1 := same_upd (o := .dK []) hd
 refine ⟨_, rfl, l, rfl, ⟨_, SqL.of (e1 _ _ hl)⟩, ?_⟩
 refine for_list (xs := rfs L) (fun i σ H' => ∃ (o2 o3 o4 o5 : Option V), σ = [some (.ref l), some (.ref d), o2, o3, o4, o5] ∧ Same H H' ∧ H' d = some (.dK (kvD (prs (L.take i))))) ⟨_, _, _, _, rfl, e1, upd_same⟩ ?_ ?_ ?_
 · rintro i σ H1 hi ⟨o2, o3, o4, o5, rfl, e, _⟩
   exact SqL.of (e _ _ hl)
 · rintro i x σ H1 hx ⟨o2, o3, o4, o5, rfl, e, hdd⟩
   obtain ⟨z, hz, rfl⟩ := rfs_at hx
   have hzz := e _ _ (hL z (List.mem_of_getElem? hz))
   have hkl := kvD_len (prs (L.take i))
   rw [prs_len, List.length_take] at hkl
   refine ⟨z.1, _, rfl, SqT.of hzz, rfl, _, _, rfl, _, _, rfl, _, _, rfl, _, _, rfl, rfl, ?_⟩
   refine ⟨_, rfl, d, rfl, .inl ⟨_, .inl hdd⟩, _, rfl, _, DGet.k (k := Sum.inr z.2.2.2.1) hdd, _, rfl, _, _, kvD_get _ _, rfl, _, rfl, _, rfl, d, _, rfl, DPut.k (k := Sum.inr z.2.2.2.1) hdd (by omega), ?_⟩
   refine ⟨_, _, _, _, rfl, same_set e hd, ?_⟩
   rw [upd_same, kvD_put, prs_snoc hz]
 rintro σ H1 ⟨o2, o3, o4, o5, rfl, e, hdd⟩
 rw [rfs_len, List.take_length] at hdd
 refine ⟨_, rfl, .inr (.inr (.inl ⟨rfl, .inl ⟨_, hdd⟩⟩)), d, _, rfl, rfl, hdd, fun v hv => ?_⟩
 have e2 := same_upd (o := ivw v d) hv
 refine ⟨v, d, _, rfl, upd_same, e2 _ _ hdd, fun p as H' e3 hp0 hp hal hpr => ?_⟩
 obtain ⟨z1, z2⟩ := kv_zip as (prs L) hal
 refine q p (as.zip (N21.rs (prs L))) H' ((e.trans e2).trans e3) ((e.trans e2).free hp0) (by rw [z1]; exact hp) z2 fun z hz => ?_
 obtain ⟨j, hj⟩ := List.mem_iff_getElem?.mp hz
 have hj1 : as[j]? = some z.1 := by
   have := congrArg (Option.map Prod.fst) hj
   rw [← List.getElem?_map] at this
   rw [List.map_fst_zip (by rw [hal]; unfold kvD N21.rs; rw [List.length_map, List.length_map]; exact Nat.le_refl _)] at this
   exact this
 have hj2 : (N21.rs (prs L))[j]? = some z.2 := by
   have := congrArg (Option.map Prod.snd) hj
   rw [← List.getElem?_map] at this
   rw [List.map_snd_zip (by rw [hal]; unfold kvD N21.rs; rw [List.length_map, List.length_map]; exact Nat.le_refl _)] at this
   exact this
 have hj3 : (kvD (prs L))[j]? = some (Sum.inr z.2.1, V.int z.2.2) := by
   unfold N21.rs at hj2
   unfold kvD
   rw [List.getElem?_map] at hj2 ⊢
   cases h : (N21.firsts ((prs L).map (·.1)))[j]? with
   | none => rw [h] at hj2; cases hj2
   | some c =>
     rw [h] at hj2
     rw [← Option.some.inj hj2]
     rfl
 exact hpr j z.1 _ hj1 hj3
theorem sc_month_of : FnScope ["day"] ["day"] (defScope s_month_of) := ⟨rfl, rfl, rfl, by decide +kernel, rfl, by decide +kernel, by decide +kernel⟩
theorem ok_month_of (D : Def K mg "month_of" s_month_of .none) : Cal P w K mg base CX0 cm 1 "month_of" ["day"] [] spMon := by
 obtain ⟨f, fd, F, hm⟩ := D
 refine ⟨f, fd, _, F.ok sc_month_of (fun vs H Q E h => ?_) (fun cdv A outer s H vs Q E hr h => ?_), hm, F.kp, (F.binds fun _ _ _ _ _ _ us hl => match us, hl with | [_], _ => rfl), .nil, F.binds fun _ _ _ _ _ _ us hl => match us, hl with | [_], _ => rfl⟩
 · obtain ⟨d, rfl, q⟩ := h
   rfl
 obtain ⟨d, rfl, q⟩ := h
 have nd := sc_month_of.nd
 refine ⟨_, (pss_one (ps_ret (pe_op op_fdiv (pv 0) pe_int))), ?_⟩
 exact ⟨_, rfl, _, _, rfl, rfl, ⟨by decide, by decide⟩, q⟩
theorem sc_put_together : FnScope ["rows", "sums", "figures", "account", "coin", "amount", "worth", "so_far", "total"] ["rows"] (defScope s_put_together) := ⟨rfl, rfl, rfl, by decide +kernel, rfl, by decide +kernel, by decide +kernel⟩
theorem ok_put_together (D : Def K mg "put_together" s_put_together .none) (z_sorted : mg "sorted" = none) : Cal P w K mg base CX0 true 1 "put_together" ["rows"] [] spPut := by
 obtain ⟨f, fd, F, hm⟩ := D
 refine ⟨f, fd, _, F.ok sc_put_together (fun vs H Q E h => ?_) (fun cdv A outer s H vs Q E hr h => ?_), hm, F.kp, (F.binds fun _ _ _ _ _ _ us hl => match us, hl with | [_], _ => rfl), .nil, F.binds fun _ _ _ _ _ _ us hl => match us, hl with | [_], _ => rfl⟩
 · obtain ⟨l, R, rfl, hl, hR, hlen, hky, q⟩ := h
   rfl
 obtain ⟨l, R, rfl, hl, hR, hlen, hky, q⟩ := h
 have nd := sc_put_together.nd
 refine ⟨_, (pss_cons (ps_set (i := 1) nd rfl (Or.inl rfl) pe_dnewT)
   (pss_cons (ps_for PassesOwn.never rfl (pi_list (pv 0)) (pg_tup rfl (pgs_cons (pg_name (i := 3) nd rfl (Or.inl rfl)) (pgs_cons (pg_name (i := 4) nd rfl (Or.inl rfl)) (pgs_cons (pg_name (i := 5) nd rfl (Or.inl rfl)) (pgs_cons (pg_name (i := 6) nd rfl (Or.inl rfl)) pgs_nil))))) (pss_cons (ps_set (i := 7) nd rfl (Or.inl rfl) (pe_dget2 (hu_of hr) (pv 1) (pe_tup (pa_cons (pv 3) (pa_cons (pv 4) pa_nil))) (pe_tup (pa_cons pe_int (pa_cons pe_int pa_nil))) ⟨rfl, rfl, rfl, rfl⟩))
   (pss_one (ps_dput (hu_of hr) (pv 1) (pe_tup (pa_cons (pv 3) (pa_cons (pv 4) pa_nil))) (pe_tup (pa_cons (pe_op op_add (pe_ix ix_seq (pv 7) pe_int (fun _ _ => rfl)) (pv 5)) (pa_cons (pe_op op_add (pe_ix ix_seq (pv 7) pe_int (fun _ _ => rfl)) (pv 6)) pa_nil))) rfl))))
   (pss_cons (ps_set (i := 2) nd rfl (Or.inl rfl) (pe_lst pa_nil))
   (pss_cons (ps_for PassesOwn.never rfl (pi_list (pe_callB (call_sortedT rfl) rfl z_sorted bt_sorted (pa_cons (pv 1) pa_nil))) (pg_tup rfl (pgs_cons (pg_name (i := 3) nd rfl (Or.inl rfl)) (pgs_cons (pg_name (i := 4) nd rfl (Or.inl rfl)) pgs_nil))) (pss_cons (ps_set (i := 8) nd rfl (Or.inl rfl) (pe_dget (hu_of hr) (pv 1) (pe_tup (pa_cons (pv 3) (pa_cons (pv 4) pa_nil))) (fun _ _ => rfl)))
   (pss_one (ps_if (pt_cmpR (op_neI hr) (pv 8) (pe_tup (pa_cons pe_int (pa_cons pe_int pa_nil))) (nomark _)) (pss_one (ps_expr (pe_bm PySem.F.plainAttrs_list PySem.F.slot_list_append PySem.F.type_list_append mt_append (pv 2) (pa_cons (pe_tup (pa_cons (pv 3) (pa_cons (pv 4) (pa_cons (pe_ix ix_seq (pv 8) pe_int (fun _ _ => rfl)) (pa_cons (pe_ix ix_seq (pv 8) pe_int (fun _ _ => rfl)) pa_nil))))) pa_nil)))) pss_nil))))
   (pss_one (ps_ret (pv 2))))))), ?_⟩
 have hline : 600 ≤ sizeLine := by decide
 refine fun d hd => ?_
 have e1 := same_upd (o := .dT []) hd
 refine ⟨_, rfl, l, rfl, ⟨_, SqL.of (e1 _ _ hl)⟩, ?_⟩
 refine for_list (xs := rf4 R) (fun i σ H' => ∃ (o2 o3 o4 o5 o6 o7 o8 : Option V) (A : Pl → Addr), σ = [some (.ref l), some (.ref d), o2, o3, o4, o5, o6, o7, o8] ∧ Same H H' ∧ Sums H' d ((R.take i).map (·.2)) A) ⟨_, _, _, _, _, _, _, fun _ => d, rfl, e1, upd_same, fun k hk => nomatch hk⟩ ?_ ?_ ?_
 · rintro i σ H1 hi ⟨o2, o3, o4, o5, o6, o7, o8, A, rfl, e, _⟩
   exact SqL.of (e _ _ hl)
 · rintro i x σ H1 hx ⟨o2, o3, o4, o5, o6, o7, o8, A, rfl, e, S⟩
   obtain ⟨z, hz, rfl⟩ := rf4_at hx
   have hzz := e _ _ (hR z (List.mem_of_getElem? hz))
   have hkl := kvT_len A ((R.take i).map (·.2))
   rw [List.length_map, List.length_take] at hkl
   have hlz : i < R.length := (List.getElem?_eq_some_iff.mp hz).1
   refine ⟨z.1, _, rfl, SqT.of hzz, rfl, _, _, rfl, _, _, rfl, _, _, rfl, _, _, rfl, rfl, ?_⟩
   refine ⟨_, rfl, d, rfl, .inr ⟨_, .inl S.1⟩, _, rfl, _, rfl, (by show 2 ≤ sizeLine; decide), fun kp hkp => ⟨(by show 2 ≤ sizeLine; decide), fun zp hzp => ?_⟩⟩
   have f1 := same_upd (o := .tup [.str z.2.1.1, .str z.2.1.2]) hkp
   have f2 := same_upd (o := .tup [.int 0, .int 0]) hzp
   have S2 := S.same (f1.trans f2)
   obtain ⟨s, hs, hst⟩ := S2.get z.2.1 (z := zp) upd_same
   refine ⟨_, DGet.t (k := kk z.2.1) S2.1 (f2 _ _ upd_same), ?_⟩
   rw [hs]
   have hT := SqT.of (K := K) hst
   refine ⟨_, rfl, .inr (.inl ⟨s, _, 0, _, rfl, rfl, hT, rfl, _, rfl, _, _, rfl, rfl, _, rfl, .inr (.inl ⟨s, _, 1, _, rfl, rfl, hT, rfl, _, rfl, _, _, rfl, rfl, (by show 2 ≤ sizeLine; decide), fun np hnp => ?_⟩)⟩)⟩
   have f3 := same_upd (o := .tup [.int (ta ((R.take i).map (·.2)) z.2.1 + z.2.2.1), .int (tw ((R.take i).map (·.2)) z.2.1 + z.2.2.2)]) hnp
   refine ⟨_, rfl, _, rfl, _, rfl, (by show 2 ≤ sizeLine; decide), fun kp2 hkp2 => ?_⟩
   have f4 := same_upd (o := .tup [.str z.2.1.1, .str z.2.1.2]) hkp2
   have S4 := S2.same (f3.trans f4)
   refine ⟨d, _, rfl, DPut.t (k := kk z.2.1) S4.1 upd_same (by omega), ?_⟩
   refine ⟨_, _, _, _, _, _, _, fun k => if k = z.2.1 then np else A k, rfl, same_set (e.trans ((f1.trans f2).trans (f3.trans f4))) hd, ?_⟩
   rw [take_nx hz, List.map_append]
   exact S4.put (p := z.2) (f4 _ _ upd_same)
 rintro σ H1 ⟨o2, o3, o4, o5, o6, o7, o8, A, rfl, e, S⟩
 rw [rf4_len, List.take_length] at S
 have hkn := hky
 generalize hP : R.map (·.2) = P at S hkn q
 refine ⟨(by show 0 ≤ sizeLine; decide), fun p hp => ?_⟩
 have g1 := same_upd (o := .lst []) hp
 refine ⟨_, rfl, d, _, kys P, rfl, g1 _ _ S.1, kvT_keys A P, by omega, fun sl T hsl perm pw ht => ⟨sl, rfl, ⟨_, SqL.of upd_same⟩, ?_⟩⟩
 have g2 := same_upd (o := .lst (T.map fun z => V.ref z.1)) hsl
 have hTl := perm.length_eq
 rw [List.length_map] at hTl
 have hTn : (T.map fun z => V.ref z.1).length = T.length := List.length_map ..
 have nsp : sl ≠ p := fun w => by
   rw [w, upd_same] at hsl
   cases hsl
 refine for_list (xs := T.map fun z => V.ref z.1) (fun i σ H' => ∃ (o3 o4 o5 o6 o7 o8 : Option V) (F : List Rw4), σ = [some (.ref l), some (.ref d), some (.ref p), o3, o4, o5, o6, o7, o8] ∧ Same H1 H' ∧ H' sl = some (.lst (T.map fun z => V.ref z.1)) ∧ H' p = some (.lst (rf4 F)) ∧ R4 H' F ∧ F.map (·.2) = fg P ((T.map (·.2)).take i) ∧ (∀ z ∈ T, H' z.1 = some (.tup [.str z.2.1, .str z.2.2]))) ⟨_, _, _, _, _, _, [], rfl, g1.trans g2, upd_same, g2 _ _ upd_same, (fun z hz => nomatch hz), rfl, fun z hz => g2 _ _ (ht z hz)⟩ ?_ ?_ ?_
 · rintro i σ H2 hi ⟨o3, o4, o5, o6, o7, o8, F, rfl, e2, hs2, _⟩
   exact SqL.of hs2
 · rintro i x σ H2 hx ⟨o3, o4, o5, o6, o7, o8, F, rfl, e2, hs2, hp2, hF, hFg, hT2⟩
   obtain ⟨z, hz, rfl⟩ := ref_at hx
   have hzm := List.mem_of_getElem? hz
   have hzz := hT2 z hzm
   have hkz : z.2 ∈ kys P := perm.mem_iff.mp (List.mem_map_of_mem hzm)
   have hFl : F.length ≤ T.length := by
     have := congrArg List.length hFg
     rw [List.length_map] at this
     unfold fg at this
     rw [List.length_map] at this
     have b := List.length_filter_le (nz P) ((T.map (·.2)).take i)
     rw [List.length_take, List.length_map] at b
     omega
   refine ⟨z.1, _, rfl, SqT.of hzz, rfl, _, _, rfl, _, _, rfl, rfl, ?_⟩
   refine ⟨_, rfl, _, rfl, _, rfl, (by show 2 ≤ sizeLine; decide), fun kp hkp => ?_⟩
   have f1 := same_upd (o := .tup [.str z.2.1, .str z.2.2]) hkp
   have S1 := S.same (e2.trans f1)
   refine ⟨d, .ref (A z.2), rfl, kvT_val hkz ▸ DGet.t (k := kk z.2) S1.1 upd_same, ?_⟩
   refine ⟨_, rfl, (by show 2 ≤ sizeLine; decide), fun zp hzp => ?_⟩
   have f2 := same_upd (o := .tup [.int 0, .int 0]) hzp
   have S2 := S1.same f2
   have hA := SqT.of (K := K) (S2.2 z.2 hkz)
   have f12 := f1.trans f2
   refine ⟨A z.2, zp, [ta P z.2, tw P z.2], [0, 0], rfl, rfl, hA, SqT.of upd_same, _, rfl, ?_⟩
   have nx := fg_nx (P := P) (ks := T.map (·.2)) (i := i) (k := z.2) (by rw [List.getElem?_map, hz]; rfl)
   refine ndec2 (fun h => ?_) (fun h => ?_)
   · have hnz : nz P z.2 = true := by
       unfold nz
       rw [decide_eq_false h]
       rfl
     rw [if_pos hnz] at nx
     refine ⟨_, rfl, .inl ⟨rfl, _, SqL.of (f12 _ _ hp2)⟩, _, rfl, _, rfl, _, rfl, .inr (.inl ⟨A z.2, _, 0, _, rfl, rfl, hA, rfl, _, rfl, .inr (.inl ⟨A z.2, _, 1, _, rfl, rfl, hA, rfl, (by show 4 ≤ sizeLine; decide), fun fp hfp => ?_⟩)⟩)⟩
     have f3 := same_upd (o := .tup [.str z.2.1, .str z.2.2, .int (ta P z.2), .int (tw P z.2)]) hfp
     have f123 := f12.trans f3
     refine ⟨p, _, _, rfl, rfl, f123 _ _ hp2, (by rw [rf4_len]; omega), ?_⟩
     refine ⟨_, _, _, _, _, _, F ++ [(fp, z.2, ta P z.2, tw P z.2)], rfl, same_set (e2.trans f123) hp, (by rw [upd_ne nsp]; exact f123 _ _ hs2), (by rw [upd_same, rf4_app]; rfl), fun y hy => ?_, ?_, fun y hy => ?_⟩
     · rcases List.mem_append.mp hy with w | w
       · exact tup_keepL (f123 _ _ (hF y w)) (f123 _ _ hp2)
       · rw [List.mem_singleton.mp w]
         exact tup_keepL upd_same (f123 _ _ hp2)
     · rw [nx, List.map_append, hFg]
       rfl
     · exact tup_keepL (f123 _ _ (hT2 y hy)) (f123 _ _ hp2)
   · have hnz : ¬ nz P z.2 = true := by
       unfold nz
       rw [decide_eq_true h]
       decide
     rw [if_neg hnz] at nx
     exact ⟨_, _, _, _, _, _, F, rfl, e2.trans f12, f12 _ _ hs2, f12 _ _ hp2, hF.same f12, hFg.trans nx.symm, fun y hy => f12 _ _ (hT2 y hy)⟩
 rintro σ H2 ⟨o3, o4, o5, o6, o7, o8, F, rfl, e2, hs2, hp2, hF, hFg, hT2⟩
 rw [hTn, ← List.map_take, List.take_length] at hFg
 exact ⟨_, rfl, q p F _ (e.trans e2) (e.free hp) hp2 hF ⟨_, perm, pw, hFg⟩⟩
theorem sc_figures_of : FnScope ["lines"] ["lines"] (defScope s_figures_of) := ⟨rfl, rfl, rfl, by decide +kernel, rfl, by decide +kernel, by decide +kernel⟩
theorem ok_figures_of (D : Def K mg "figures_of" s_figures_of .none) (c_put_together : Cal P w K mg base CX0 true 1 "put_together" ["rows"] [] spPut) : Cal P w K mg base CX0 true 2 "figures_of" ["lines"] [] spFigs := by
 obtain ⟨f, fd, F, hm⟩ := D
 obtain ⟨f_put_together, fd_put_together, d_put_together, G_put_together, m_put_together, k_put_together, b_put_together, v_put_together, b_put_together1⟩ := c_put_together
 refine ⟨f, fd, _, F.ok sc_figures_of (fun vs H Q E h => ?_) (fun cdv A outer s H vs Q E hr h => ?_), hm, F.kp, (F.binds fun _ _ _ _ _ _ us hl => match us, hl with | [_], _ => rfl), .nil, F.binds fun _ _ _ _ _ _ us hl => match us, hl with | [_], _ => rfl⟩
 · obtain ⟨l, L, rfl, hl, hL, hlen, hky, q⟩ := h
   rfl
 obtain ⟨l, L, rfl, hl, hL, hlen, hky, q⟩ := h
 have nd := sc_figures_of.nd
 refine ⟨_, (pss_one (ps_ret (pe_call G_put_together (hr.mono (by decide)) rfl m_put_together k_put_together b_put_together Paired.nil pass0 (pa_cons (pe_lc [] rfl (LcOk.plain (by decide +kernel) (by decide +kernel) rfl (by decide +kernel) rfl) (pi_list (pv 0)) (fun C s2 H2 fp xe => (pe_slice sl_tupC (pv 0) (po_some pe_int) po_none))) pa_nil)))), ?_⟩
 have hline : 600 ≤ sizeLine := by decide
 refine ⟨_, rfl, l, rfl, ⟨_, SqL.of hl⟩, ?_⟩
 refine lc_list (xs := rf5 L) (fun i ys H1 => ∃ R : List Rw4, ys = rf4 R ∧ R.map (·.2) = (L.take i).map (·.2.2) ∧ R4 H1 R ∧ Same H H1) ⟨[], rfl, rfl, (fun z hz => nomatch hz), fun _ _ h => h⟩ (by rw [rf5_len]; omega) ?_ ?_ ?_
 · rintro i ys H1 hi ⟨R, rfl, hR, _, e⟩
   have := congrArg List.length hR
   rw [List.length_map, List.length_map, List.length_take] at this
   rw [rf5_len] at hi
   exact ⟨SqL.of (e _ _ hl), by rw [rf4_len]; omega⟩
 · rintro i x ys H1 hx ⟨R, rfl, hR, hRt, e⟩
   obtain ⟨z, hz, rfl⟩ := rf5_at hx
   have hzz := e _ _ (hL z (List.mem_of_getElem? hz))
   refine ⟨_, rfl, _, rfl, z.1, _, rfl, SqT.of hzz, (fun h => Nat.one_ne_zero h.1), fun p hp => ?_⟩
   have f := same_upd (o := tup4 (p, z.2.2)) hp
   refine ⟨R ++ [(p, z.2.2)], by rw [rf4_app]; rfl, ?_, fun y hy => ?_, e.trans f⟩
   · rw [take_nx hz, List.map_append, List.map_append, hR]
     rfl
   · rcases List.mem_append.mp hy with w | w
     · exact f _ _ (hRt y w)
     · rw [List.mem_singleton.mp w]
       exact upd_same
 rintro ys H1 ⟨R, rfl, hR, hRt, e⟩ rl hrl
 rw [rf5_len, List.take_length] at hR
 have hRl := congrArg List.length hR
 rw [List.length_map, List.length_map] at hRl
 have f := same_upd (o := .lst (rf4 R)) hrl
 refine ⟨rl, R, rfl, upd_same, hRt.same f, by omega, by rw [hR]; exact hky, fun p F H' e2 hp hp2 hF hFg => ?_⟩
 rw [hR] at hFg
 exact q p F H' ((e.trans f).trans e2) ((e.trans f).free hp) hp2 hF hFg
theorem sc_check_entry : FnScope ["book", "lines", "line", "worth", "coin", "rest"] ["book", "lines"] (defScope s_check_entry) := ⟨rfl, rfl, rfl, by decide +kernel, rfl, by decide +kernel, by decide +kernel⟩
theorem ok_check_entry (D : Def K mg "check_entry" s_check_entry .none) (c_rests_of : Cal P w K mg base CX0 true 1 "rests_of" ["sides"] [] spRests) (z_sum : mg "sum" = none) : Cal P w K mg base CX0 true 2 "check_entry" ["book", "lines"] [] spChk := by
 obtain ⟨f, fd, F, hm⟩ := D
 obtain ⟨f_rests_of, fd_rests_of, d_rests_of, G_rests_of, m_rests_of, k_rests_of, b_rests_of, v_rests_of, b_rests_of1⟩ := c_rests_of
 refine ⟨f, fd, _, F.ok sc_check_entry (fun vs H Q E h => ?_) (fun cdv A outer s H vs Q E hr h => ?_), hm, F.kp, (F.binds fun _ _ _ _ _ _ us hl => match us, hl with | [_, _], _ => rfl), .nil, F.binds fun _ _ _ _ _ _ us hl => match us, hl with | [_, _], _ => rfl⟩
 · obtain ⟨f, l, L, rfl, hl, hL, g, q⟩ := h
   rfl
 obtain ⟨f, l, L, rfl, hl, hL, g, q⟩ := h
 have nd := sc_check_entry.nd
 refine ⟨_, (pss_cons (ps_for PassesOwn.never rfl (pi_list (pv 1)) (pg_name (i := 2) nd rfl (Or.inl rfl)) (pss_one (ps_if (pt_cmpR op_ne (pe_ix ix_seq (pv 2) pe_int (fun _ _ => rfl)) (pv 0) (nomark _)) (pss_one ps_never) pss_nil)))
   (pss_cons (ps_for PassesOwn.never rfl (pi_list (pe_call G_rests_of (hr.mono (by decide)) rfl m_rests_of k_rests_of b_rests_of Paired.nil pass0 (pa_cons (pe_lc [] rfl (LcOk.plain (by decide +kernel) (by decide +kernel) rfl (by decide +kernel) rfl) (pi_list (pv 1)) (fun C s2 H2 fp xe => (pe_slice sl_tupC (pv 0) po_none (po_some pe_int)))) pa_nil))) (pg_tup rfl (pgs_cons (pg_name (i := 4) nd rfl (Or.inl rfl)) (pgs_cons (pg_name (i := 5) nd rfl (Or.inl rfl)) pgs_nil))) (pss_one (ps_if (pt_cmpR op_ne (pv 5) pe_int (nomark _)) (pss_one ps_never) pss_nil)))
   (pss_cons (ps_set (i := 3) nd rfl (Or.inl rfl) (pe_callB (call_sum hr) rfl z_sum bt_sum (pa_cons (pe_lc [] rfl (LcOk.plain (by decide +kernel) (by decide +kernel) rfl (by decide +kernel) rfl) (pi_list (pv 1)) (fun C s2 H2 fp xe => (pe_ix ix_seqC (pv 0) pe_int (fun _ _ => rfl)))) pa_nil)))
   (pss_one (ps_if (pt_cmpR op_ne (pv 3) pe_int (nomark _)) (pss_one ps_never) pss_nil))))), ?_⟩
 have hline : 600 ≤ sizeLine := by decide
 have hn := g.n
 refine ⟨_, rfl, l, rfl, ⟨_, SqL.of hl⟩, ?_⟩
 refine for_list (xs := rf5 L) (fun i σ H' => ∃ (o2 o3 o4 o5 : Option V), σ = [some (.str f), some (.ref l), o2, o3, o4, o5] ∧ H' = H) ⟨_, _, _, _, rfl, rfl⟩ ?_ ?_ ?_
 · rintro i σ H1 hi ⟨o2, o3, o4, o5, rfl, rfl⟩
   exact SqL.of hl
 · rintro i x σ H1 hx ⟨o2, o3, o4, o5, rfl, rfl⟩
   obtain ⟨z, hz, rfl⟩ := rf5_at hx
   have hm := List.mem_of_getElem? hz
   have hT := SqT.of (K := K) (hL z hm)
   exact ⟨_, rfl, .inr (.inl ⟨z.1, _, 0, _, rfl, rfl, hT, rfl, _, rfl, rfl, _, rfl, ndecF (congrArg V.str (g.f z hm)) ⟨_, _, _, _, rfl, rfl⟩⟩)⟩
 rintro σ H1 ⟨o2, o3, o4, o5, rfl, rfl⟩
 refine ⟨_, rfl, l, rfl, ⟨_, SqL.of hl⟩, ?_⟩
 refine lc_list (xs := rf5 L) (fun i ys H2 => ∃ S : List Sd, ys = rfs S ∧ S.length = i ∧ prs S = prsL (L.take i) ∧ (∀ z ∈ S, H2 z.1 = some (tupZ z)) ∧ Same H1 H2) ⟨[], rfl, rfl, rfl, (fun z hz => nomatch hz), fun _ _ h => h⟩ (by rw [rf5_len]; omega) ?_ ?_ ?_
 · rintro i ys H2 hi ⟨S, rfl, hS, _, _, e⟩
   exact ⟨SqL.of (e _ _ hl), by rw [rfs_len]; exact hS⟩
 · rintro i x ys H2 hx ⟨S, rfl, hS, hp, hSt, e⟩
   obtain ⟨z, hz, rfl⟩ := rf5_at hx
   have hzz := e _ _ (hL z (List.mem_of_getElem? hz))
   refine ⟨_, rfl, _, rfl, z.1, _, rfl, SqT.of hzz, (fun h => absurd (show (4 : Nat) = 5 from h.2) (by decide)), fun p hp0 => ?_⟩
   have f1 := same_upd (o := tupZ (p, z.2.1, z.2.2.1.1, z.2.2.1.2, z.2.2.2.1)) hp0
   refine ⟨S ++ [(p, z.2.1, z.2.2.1.1, z.2.2.1.2, z.2.2.2.1)], by rw [rfs_app]; rfl, by rw [List.length_append, hS]; rfl, ?_, fun y hy => ?_, e.trans f1⟩
   · unfold prs prsL at hp ⊢
     rw [take_nx hz, List.map_append, List.map_append, hp]
     rfl
   · rcases List.mem_append.mp hy with w | w
     · exact f1 _ _ (hSt y w)
     · rw [List.mem_singleton.mp w]
       exact upd_same
 rintro ys H2 ⟨S, rfl, hS, hp, hSt, e⟩ sl hsl
 rw [rf5_len] at hS
 rw [rf5_len, List.take_length] at hp
 have f2 := same_upd (o := .lst (rfs S)) hsl
 refine ⟨sl, S, rfl, upd_same, (fun z hz => f2 _ _ (hSt z hz)), by omega, fun rp R H3 e3 hrp0 hrp hR hRt => ⟨rp, rfl, ⟨_, SqL.of hrp⟩, ?_⟩⟩
 have ee := (e.trans f2).trans e3
 refine for_list (xs := rfr R) (fun i σ H' => ∃ (o2 o3 o4 o5 : Option V), σ = [some (.str f), some (.ref l), o2, o3, o4, o5] ∧ H' = H3) ⟨_, _, _, _, rfl, rfl⟩ ?_ ?_ ?_
 · rintro i σ H4 hi ⟨o2, o3, o4, o5, rfl, rfl⟩
   exact SqL.of hrp
 · rintro i x σ H4 hx ⟨o2, o3, o4, o5, rfl, rfl⟩
   obtain ⟨z, hz, rfl⟩ := rfr_at hx
   have hm := List.mem_of_getElem? hz
   have h0 : z.2.2 = 0 := by
     have hz2 : z.2 ∈ N21.rs (prs S) := by
       rw [← hR]
       exact List.mem_map_of_mem hm
     unfold N21.rs at hz2
     obtain ⟨c, _, ec⟩ := List.mem_map.mp hz2
     rw [← ec]
     show N21.tot c (prs S) = 0
     rw [hp]
     exact g.c c
   refine ⟨z.1, _, rfl, SqT.of (hRt z hm), rfl, _, _, rfl, _, _, rfl, rfl, ?_⟩
   exact ⟨_, rfl, rfl, _, rfl, ndecF (congrArg V.int h0) ⟨_, _, _, _, rfl, rfl⟩⟩
 rintro σ H4 ⟨o2, o3, o4, o5, rfl, rfl⟩
 refine ⟨_, rfl, l, rfl, ⟨_, SqL.of (ee _ _ hl)⟩, ?_⟩
 refine lc_list (xs := rf5 L) (fun i ys H5 => ys = (wrs (L.take i)).map V.int ∧ H5 = H4) ⟨rfl, rfl⟩ (by rw [rf5_len]; omega) ?_ ?_ ?_
 · rintro i ys H5 hi ⟨rfl, rfl⟩
   rw [rf5_len] at hi
   refine ⟨SqL.of (ee _ _ hl), ?_⟩
   unfold wrs
   rw [List.length_map, List.length_map, List.length_take]
   omega
 · rintro i x ys H5 hx ⟨rfl, rfl⟩
   obtain ⟨z, hz, rfl⟩ := rf5_at hx
   have hT := SqT.of (K := K) (ee _ _ (hL z (List.mem_of_getElem? hz)))
   refine ⟨_, rfl, .inr (.inl ⟨z.1, _, 4, _, rfl, rfl, hT, rfl, ?_, rfl⟩)⟩
   unfold wrs
   rw [take_nx hz, List.map_append, List.map_append]
   rfl
 rintro ys H5 ⟨rfl, rfl⟩ wl hwl
 rw [rf5_len, List.take_length]
 have f6 := same_upd (o := .lst ((wrs L).map V.int)) hwl
 refine ⟨wl, wrs L, rfl, SqL.of upd_same, ?_⟩
 rw [g.w]
 exact ⟨_, rfl, rfl, _, rfl, ndecF rfl (q _ (ee.trans f6))⟩
theorem sc__law_cell : FnScope ["_law_script", "_law_k"] ["_law_script", "_law_k"] (defScope s__law_cell) := ⟨rfl, rfl, rfl, by decide +kernel, rfl, by decide +kernel, by decide +kernel⟩
theorem ok__law_cell (D : Def K mg "_law_cell" s__law_cell .none) (z_len : mg "len" = none) : Cal P w K mg base CX0 cm 1 "_law_cell" ["_law_script", "_law_k"] [] (spCell K) := by
 obtain ⟨f, fd, F, hm⟩ := D
 refine ⟨f, fd, _, F.ok sc__law_cell (fun vs H Q E h => ?_) (fun cdv A outer s H vs Q E hr h => ?_), hm, F.kp, (F.binds fun _ _ _ _ _ _ us hl => match us, hl with | [_, _], _ => rfl), .nil, F.binds fun _ _ _ _ _ _ us hl => match us, hl with | [_, _], _ => rfl⟩
 · obtain ⟨a, ns, k, rfl, hS, q⟩ := h
   rfl
 obtain ⟨a, ns, k, rfl, hS, q⟩ := h
 have nd := sc__law_cell.nd
 refine ⟨_, (pss_cons (ps_if (pt_cmpR op_lt (pv 1) (pe_callB call_len_seq rfl z_len bt_len (pa_cons (pv 0) pa_nil)) (nomark _)) (pss_one (ps_ret (pe_ix ix_seq (pv 0) (pv 1) (fun _ _ => rfl)))) pss_nil)
   (pss_one (ps_ret pe_int))), ?_⟩
 refine ⟨_, rfl, _, rfl, a, _, rfl, .inl hS, _, _, rfl, rfl, _, rfl, ?_⟩
 rw [List.length_map]
 refine dec2 (fun h => ?_) (fun h => ?_)
 · refine ⟨_, rfl, _, rfl, .inl ⟨a, _, k, .int (ns.getD k 0), rfl, rfl, hS, atI_nat ?_, q⟩⟩
   have hk : k < ns.length := by omega
   rw [List.getElem?_map, List.getElem?_eq_getElem hk]
   simp [List.getD, hk]
 · have hk : ns.length ≤ k := by omega
   have e : ns.getD k 0 = 0 := by simp [List.getD, hk]
   rw [e] at q
   exact q
theorem sc__law_whole : FnScope ["_law_found"] ["_law_found"] (defScope s__law_whole) := ⟨rfl, rfl, rfl, by decide +kernel, rfl, by decide +kernel, by decide +kernel⟩
theorem ok__law_whole (D : Def K mg "_law_whole" s__law_whole .none) (z_isinstance : mg "isinstance" = none) (z_int : mg "int" = none) (z_bool : mg "bool" = none) (q_ib : PySem.W.kitOne K (.type "int") (.type "bool") = some false) : Cal P w K mg base CX0 cm 1 "_law_whole" ["_law_found"] [] spWhole := by
 obtain ⟨f, fd, F, hm⟩ := D
 refine ⟨f, fd, _, F.ok sc__law_whole (fun vs H Q E h => ?_) (fun cdv A outer s H vs Q E hr h => ?_), hm, F.kp, (F.binds fun _ _ _ _ _ _ us hl => match us, hl with | [_], _ => rfl), .nil, F.binds fun _ _ _ _ _ _ us hl => match us, hl with | [_], _ => rfl⟩
 · obtain ⟨i, rfl, q⟩ := h
   rfl
 obtain ⟨i, rfl, q⟩ := h
 have nd := sc__law_whole.nd
 refine ⟨_, (pss_one (ps_ret (pe_and (pe_callB call_is rfl z_isinstance bt_isinstance (pa_cons (pv 0) (pa_cons (pe_bltn (v := .ty "int") rfl z_int bt_int rfl) pa_nil))) (pe_one (pe_not (pe_callB call_is rfl z_isinstance bt_isinstance (pa_cons (pv 0) (pa_cons (pe_bltn (v := .ty "bool") rfl z_bool bt_bool rfl) pa_nil)))))))), ?_⟩
 refine ⟨_, rfl, _, _, _, _, _, rfl, .of (.int i), rfl, rfl, true, rfl, iteT ?_⟩
 exact ⟨_, rfl, _, _, _, _, _, rfl, .of (.int i), rfl, q_ib, false, rfl, q⟩
theorem sc__law_names : FnScope ["_law_cell_here", "_law_letters", "_law_size", "_law_step_here", "_law_first", "_law_base", "_law_k", "_law_at", "_law_names_here", "_law_sign"] ["_law_cell_here"] (defScope s__law_names) := ⟨rfl, rfl, rfl, by decide +kernel, rfl, by decide +kernel, by decide +kernel⟩
theorem ok__law_names (D : Def K mg "_law_names" s__law_names .none) (z_range : mg "range" = none) : Cal P w K mg base CX0 true 1 "_law_names" ["_law_cell_here"] [] spNames := by
 obtain ⟨f, fd, F, hm⟩ := D
 refine ⟨f, fd, _, F.ok sc__law_names (fun vs H Q E h => ?_) (fun cdv A outer s H vs Q E hr h => ?_), hm, F.kp, (F.binds fun _ _ _ _ _ _ us hl => match us, hl with | [_], _ => rfl), .nil, F.binds fun _ _ _ _ _ _ us hl => match us, hl with | [_], _ => rfl⟩
 · obtain ⟨c, rfl, q⟩ := h
   rfl
 obtain ⟨c, rfl, q⟩ := h
 have nd := sc__law_names.nd
 refine ⟨_, (pss_cons (ps_set (i := 1) nd rfl (Or.inl rfl) pe_str)
   (pss_cons (ps_set (i := 2) nd rfl (Or.inl rfl) (pe_op op_add pe_int (pe_op op_mod (pv 0) pe_int)))
   (pss_cons (ps_set (i := 3) nd rfl (Or.inl rfl) (pe_op op_mod (pe_op op_fdiv (pv 0) pe_int) pe_int))
   (pss_cons (ps_set (i := 4) nd rfl (Or.inl rfl) (pe_op op_mod (pe_op op_fdiv (pv 0) pe_int) pe_int))
   (pss_cons (ps_set (i := 5) nd rfl (Or.inl rfl) pe_str)
   (pss_cons (ps_for PassesOwn.never rfl (pi_range1 rfl z_range (pa_cons (pv 2) pa_nil)) (pg_name (i := 6) nd rfl (Or.inl rfl)) (pss_one (ps_set (i := 5) nd rfl (Or.inl rfl) (pe_op op_add_str (pv 5) (pe_ix ix_seq (pv 1) (pe_op op_mod (pe_op op_add (pv 4) (pe_op op_mulB (pv 6) (pv 3))) pe_int) (fun _ _ => rfl))))))
   (pss_cons (ps_if (PW.pt (pw_and (pt_cmpR op_eq (pe_op op_mod (pe_op op_fdiv (pv 0) pe_int) pe_int) pe_int (nomark _)) (pw_and1 (pt_cmpR op_gt (pv 2) pe_int (nomark _))))) (pss_one (ps_ret (pe_lst (pa_cons (pe_slice sl_str (pv 5) po_none (po_some (pe_op op_sub (pv 2) pe_int))) (pa_cons (pv 5) (pa_cons (pe_slice sl_str (pv 5) po_none (po_some (pe_op op_sub (pv 2) pe_int))) pa_nil)))))) pss_nil)
   (pss_cons (ps_set (i := 7) nd rfl (Or.inl rfl) (pe_op op_mod (pe_op op_fdiv (pv 0) pe_int) (pv 2)))
   (pss_cons (ps_set (i := 8) nd rfl (Or.inl rfl) (pe_lst pa_nil))
   (pss_cons (ps_for PassesOwn.never rfl (pi_range1 rfl z_range (pa_cons pe_int pa_nil)) (pg_name (i := 6) nd rfl (Or.inl rfl)) (pss_cons (ps_set (i := 9) nd rfl (Or.inl rfl) (pe_ix ix_seq (pv 1) (pe_op op_mod (pe_op op_add (pe_op op_add (pv 4) (pe_op op_mulB (pv 7) (pv 3))) (pv 6)) pe_int) (fun _ _ => rfl)))
   (pss_one (ps_expr (pe_bm PySem.F.plainAttrs_list PySem.F.slot_list_append PySem.F.type_list_append mt_append (pv 8) (pa_cons (pe_op op_add_str (pe_op op_add_str (pe_slice sl_str (pv 5) po_none (po_some (pv 7))) (pv 9)) (pe_slice sl_str (pv 5) (po_some (pe_op op_add (pv 7) pe_int)) po_none)) pa_nil))))))
   (pss_one (ps_ret (pv 8))))))))))))), ?_⟩
 have hline : 600 ≤ sizeLine := by decide
 refine ⟨_, rfl, _, _, rfl, rfl, (by show (0 : Int) < 8; decide), _, _, rfl, rfl, ?_⟩
 refine ⟨_, rfl, _, _, rfl, rfl, ⟨by decide, by decide⟩, _, _, rfl, rfl, (by show (0 : Int) < 5; decide), ?_⟩
 refine ⟨_, rfl, _, _, rfl, rfl, ⟨by decide, by decide⟩, _, _, rfl, rfl, (by show (0 : Int) < 26; decide), ?_⟩
 refine ⟨_, rfl, _, rfl, by omega, by omega, ?_⟩
 refine for_range (fun i σ H' => ∃ (b : Str) (o : Option V), σ = [some (.int c), some (.str L26), some (.int (1 + c % 8)), some (.int (c / 8 % 5)), some (.int (c / 40 % 26)), some (.str b), o, none, none, none] ∧ b.length = i ∧ H' = H) ⟨_, none, rfl, rfl, rfl⟩ ?_ ?_
 · rintro i σ H' hi ⟨b, o, rfl, hb, rfl⟩
   have hi8 : i < 8 := by omega
   have m0 := Int.emod_nonneg (c / 40 % 26 + (0 + (i : Int)) * (c / 8 % 5)) (show (26 : Int) ≠ 0 by decide)
   have m1 := Int.emod_lt_of_pos (c / 40 % 26 + (0 + (i : Int)) * (c / 8 % 5)) (show (0 : Int) < 26 by decide)
   refine ⟨_, rfl, _, rfl, _, rfl, _, rfl, _, rfl, _, _, rfl, rfl, mul_of (by omega) (by omega) (by omega) (by omega), _, _, rfl, rfl, _, _, rfl, rfl, (by show (0 : Int) < 26; decide), .inr (.inr ⟨L26, _, _, rfl, rfl, l26_len, l26_at m0 m1, ?_⟩)⟩
   refine ⟨b, _, rfl, rfl, (by show b.length + 1 ≤ sizeLine; omega), ?_⟩
   exact ⟨_, _, rfl, by rw [str_len_app, hb]; rfl, rfl⟩
 rintro σ H0 ⟨b, o, rfl, hb, rfl⟩
 refine ⟨_, rfl, _, _, rfl, rfl, ⟨by decide, by decide⟩, _, _, rfl, rfl, (by show (0 : Int) < 3; decide), rfl, _, rfl, ?_⟩
 apply join1 (fun (_ : Unit) => True)
 · intro k
   obtain ⟨u, _⟩ : ∃ u : Unit, u = () := ⟨(), rfl⟩
   refine dec2 (fun h0 => ?_) (fun h0 => iteF (k u trivial))
   refine ⟨_, rfl, _, _, rfl, rfl, _, rfl, ?_⟩
   refine dec2 (fun h1 => ?_) (fun h1 => k u trivial)
   have n1 : (Txt.slice b none (some (1 + c % 8 - 1))).length = (1 + c % 8 - 1).toNat := by
     have := slice_pre_len b (1 + c % 8 - 1).toNat (by omega)
     rw [show (((1 + c % 8 - 1).toNat : Nat) : Int) = 1 + c % 8 - 1 by omega] at this
     exact this
   have n2 : (Txt.slice b none (some (1 + c % 8 - 2))).length = (1 + c % 8 - 2).toNat := by
     have := slice_pre_len b (1 + c % 8 - 2).toNat (by omega)
     rw [show (((1 + c % 8 - 2).toNat : Nat) : Int) = 1 + c % 8 - 2 by omega] at this
     exact this
   refine ⟨_, rfl, _, rfl, _, _, rfl, rfl, _, rfl, b, rfl, by omega, _, rfl, _, rfl, _, rfl, _, _, rfl, rfl, _, rfl, b, rfl, by omega, (by show 3 ≤ sizeLine; decide), fun l hl => ?_⟩
   exact q l _ _ _ _ (same_upd hl) upd_same (fun e => by rw [e] at n1; omega) (by omega) (by omega) (by omega)
 rintro _ _
 have hat := Int.emod_nonneg (c / 3120) (show 1 + c % 8 ≠ 0 by omega)
 have hat2 := Int.emod_lt_of_pos (c / 3120) (show 0 < 1 + c % 8 by omega)
 refine ⟨_, rfl, _, _, rfl, rfl, ⟨by decide, by decide⟩, _, rfl, _, _, rfl, rfl, (by show (0 : Int) < 1 + c % 8; omega), ?_⟩
 refine ⟨(by show 0 ≤ sizeLine; decide), fun l hl => ?_⟩
 refine ⟨_, rfl, by decide, by decide, ?_⟩
 refine for_range (fun i σ H' => ∃ (o o2 : Option V), σ = [some (.int c), some (.str L26), some (.int (1 + c % 8)), some (.int (c / 8 % 5)), some (.int (c / 40 % 26)), some (.str b), o, some (.int (c / 3120 % (1 + c % 8))), some (.ref l), o2] ∧ Same H0 H' ∧ H' l = some (.lst ((List.range i).map fun k => V.str (nmK b (c / 3120 % (1 + c % 8)) (c / 40 % 26 + c / 3120 % (1 + c % 8) * (c / 8 % 5)) k)))) ⟨_, none, rfl, same_upd hl, upd_same⟩ ?_ ?_
 · rintro i σ H' hi ⟨o, o2, rfl, e, hll⟩
   have hi3 : i < 3 := hi
   have m0 := Int.emod_nonneg (c / 40 % 26 + c / 3120 % (1 + c % 8) * (c / 8 % 5) + (0 + (i : Int))) (show (26 : Int) ≠ 0 by decide)
   have m1 := Int.emod_lt_of_pos (c / 40 % 26 + c / 3120 % (1 + c % 8) * (c / 8 % 5) + (0 + (i : Int))) (show (0 : Int) < 26 by decide)
   refine ⟨_, rfl, _, rfl, _, rfl, _, rfl, _, _, rfl, rfl, mul_of (by omega) (by omega) (by omega) (by omega), _, _, rfl, rfl, _, rfl, _, _, rfl, rfl, _, _, rfl, rfl, (by show (0 : Int) < 26; decide), .inr (.inr ⟨L26, _, _, rfl, rfl, l26_len, l26_at m0 m1, ?_⟩)⟩
   have z1 := Txt.slice_le b none (some (c / 3120 % (1 + c % 8)))
   have z2 := Txt.slice_le b (some (c / 3120 % (1 + c % 8) + 1)) none
   have zs : ∀ i, (sgn i).length = 1 := fun _ => rfl
   refine ⟨_, rfl, .inl ⟨rfl, _, SqL.of hll⟩, _, rfl, _, rfl, _, rfl, b, rfl, by omega, _, rfl, _, _, rfl, rfl, (by have := zs ((c / 40 % 26 + c / 3120 % (1 + c % 8) * (c / 8 % 5) + (0 + (i : Int))) % 26); show _ + (sgn _).length ≤ sizeLine; omega), _, rfl, _, rfl, _, _, rfl, rfl, _, rfl, b, rfl, by omega, _, _, rfl, rfl, (by have := zs ((c / 40 % 26 + c / 3120 % (1 + c % 8) * (c / 8 % 5) + (0 + (i : Int))) % 26); have := str_len_app (Txt.slice b none (some (c / 3120 % (1 + c % 8)))) (sgn ((c / 40 % 26 + c / 3120 % (1 + c % 8) * (c / 8 % 5) + (0 + (i : Int))) % 26)); show (_ ++ sgn _).length + _ ≤ sizeLine; omega), ?_⟩
   refine ⟨l, _, _, rfl, rfl, hll, (by rw [List.length_map, List.length_range]; omega), ?_⟩
   refine ⟨_, _, rfl, same_set e hl, ?_⟩
   rw [upd_same, List.range_succ, List.map_append]
   rfl
 · rintro σ H' ⟨o, o2, rfl, e, hll⟩
   exact ⟨_, rfl, q l _ _ _ H' e hll (nmK_ne (by decide) (by decide)) (nmK_len (by omega)) (nmK_len (by omega)) (nmK_len (by omega))⟩
theorem sc__law_amount : FnScope ["_law_cell_here"] ["_law_cell_here"] (defScope s__law_amount) := ⟨rfl, rfl, rfl, by decide +kernel, rfl, by decide +kernel, by decide +kernel⟩
theorem ok__law_amount (D : Def K mg "_law_amount" s__law_amount .none) : Cal P w K mg base CX0 cm 1 "_law_amount" ["_law_cell_here"] [] spAm := by
 obtain ⟨f, fd, F, hm⟩ := D
 refine ⟨f, fd, _, F.ok sc__law_amount (fun vs H Q E h => ?_) (fun cdv A outer s H vs Q E hr h => ?_), hm, F.kp, (F.binds fun _ _ _ _ _ _ us hl => match us, hl with | [_], _ => rfl), .nil, F.binds fun _ _ _ _ _ _ us hl => match us, hl with | [_], _ => rfl⟩
 · obtain ⟨c, rfl, q⟩ := h
   rfl
 obtain ⟨c, rfl, q⟩ := h
 have nd := sc__law_amount.nd
 refine ⟨_, (pss_cons (ps_if (pt_cmpR op_lt (pe_op op_mod (pv 0) pe_int) pe_int (nomark _)) (pss_one (ps_ret (pe_op op_sub (pe_op op_mod (pe_op op_fdiv (pv 0) pe_int) pe_int) pe_int))) pss_nil)
   (pss_one (ps_ret (pe_op op_pow (pe_op op_sub (pe_op op_mod (pe_op op_fdiv (pv 0) pe_int) pe_int) pe_int) pe_int)))), ?_⟩
 refine ⟨_, rfl, _, _, rfl, rfl, (by show (0 : Int) < 3; decide), _, _, rfl, rfl, _, rfl, ?_⟩
 refine dec2 (fun h => ⟨_, rfl, _, _, rfl, rfl, ⟨by decide, by decide⟩, _, _, rfl, rfl, (by show (0 : Int) < 13; decide), _, _, rfl, rfl, q _⟩) (fun h => ?_)
 exact ⟨_, rfl, _, _, rfl, rfl, ⟨by decide, by decide⟩, _, _, rfl, rfl, (by show (0 : Int) < 1000003; decide), _, _, rfl, rfl, _, _, rfl, rfl, ⟨by decide, by decide, by omega⟩, q _⟩
abbrev s_Closed__init__ : Stmt := inClass (top 3) 0
theorem sc_Closed__init__ : FnScope ["self", "book", "month"] ["self", "book", "month"] (defScope s_Closed__init__) := ⟨rfl, rfl, rfl, by decide +kernel, rfl, by decide +kernel, by decide +kernel⟩
theorem ok_Closed__init__ {C_Closed : Addr} (X_Closed : XCls K C_Closed) (n_Closedbook : NoAttr K C_Closed "book") (n_Closedmonth : NoAttr K C_Closed "month") (D : DefX K C_Closed "Closed.__init__" s_Closed__init__) : CalX P w K mg base true 1 C_Closed ["self", "book", "month"] (spX2 C_Closed) := by
 obtain ⟨f, fd, F, hfi, hfn⟩ := D
 refine ⟨f, fd, hfi, hfn, F.ok sc_Closed__init__ (fun vs H Q E h => ?_) (fun cdv A outer s H vs Q E hr h => ?_), (F.binds fun _ _ _ _ _ _ us hl => match us, hl with | [_, _, _], _ => rfl)⟩
 · obtain ⟨x, u0, u1, rfl, hx, q⟩ := h
   rfl
 obtain ⟨x, u0, u1, rfl, hx, q⟩ := h
 have nd := sc_Closed__init__.nd
 refine ⟨_, (pss_cons (ps_fldB (pv 0) (pv 1) rfl)
   (pss_one (ps_fldB (pv 0) (pv 2) rfl))), ?_⟩
 refine ⟨_, rfl, _, rfl, x, C_Closed, rfl, X_Closed, n_Closedbook, .inl ⟨hx, fun d hd hdx => ?_⟩⟩
 refine ⟨_, rfl, _, rfl, x, C_Closed, rfl, X_Closed, n_Closedmonth, .inr ⟨d, _, upd_same, (by rw [upd_ne hdx]; exact upd_same), (by show 1 < 1000; decide), ?_⟩⟩
 refine q d _ hd hdx upd_same ?_ fun y o hy hyx => ?_
 · rw [upd_ne (Ne.symm hdx)]
   exact upd_same
 · have hyd : y ≠ d := ne_of_none hy hd
   rw [upd_ne hyd, upd_ne hyx, upd_ne hyd]
   exact hy
abbrev s_BadPaper__init__ : Stmt := inClass (top 4) 0
theorem sc_BadPaper__init__ : FnScope ["self", "book", "month"] ["self", "book", "month"] (defScope s_BadPaper__init__) := ⟨rfl, rfl, rfl, by decide +kernel, rfl, by decide +kernel, by decide +kernel⟩
theorem ok_BadPaper__init__ {C_BadPaper : Addr} (X_BadPaper : XCls K C_BadPaper) (n_BadPaperbook : NoAttr K C_BadPaper "book") (n_BadPapermonth : NoAttr K C_BadPaper "month") (D : DefX K C_BadPaper "BadPaper.__init__" s_BadPaper__init__) : CalX P w K mg base true 1 C_BadPaper ["self", "book", "month"] (spX2 C_BadPaper) := by
 obtain ⟨f, fd, F, hfi, hfn⟩ := D
 refine ⟨f, fd, hfi, hfn, F.ok sc_BadPaper__init__ (fun vs H Q E h => ?_) (fun cdv A outer s H vs Q E hr h => ?_), (F.binds fun _ _ _ _ _ _ us hl => match us, hl with | [_, _, _], _ => rfl)⟩
 · obtain ⟨x, u0, u1, rfl, hx, q⟩ := h
   rfl
 obtain ⟨x, u0, u1, rfl, hx, q⟩ := h
 have nd := sc_BadPaper__init__.nd
 refine ⟨_, (pss_cons (ps_fldB (pv 0) (pv 1) rfl)
   (pss_one (ps_fldB (pv 0) (pv 2) rfl))), ?_⟩
 refine ⟨_, rfl, _, rfl, x, C_BadPaper, rfl, X_BadPaper, n_BadPaperbook, .inl ⟨hx, fun d hd hdx => ?_⟩⟩
 refine ⟨_, rfl, _, rfl, x, C_BadPaper, rfl, X_BadPaper, n_BadPapermonth, .inr ⟨d, _, upd_same, (by rw [upd_ne hdx]; exact upd_same), (by show 1 < 1000; decide), ?_⟩⟩
 refine q d _ hd hdx upd_same ?_ fun y o hy hyx => ?_
 · rw [upd_ne (Ne.symm hdx)]
   exact upd_same
 · have hyd : y ≠ d := ne_of_none hy hd
   rw [upd_ne hyd, upd_ne hyx, upd_ne hyd]
   exact hy
abbrev s_KeptBook_closed : Stmt := inClass (top 16) 2
theorem sc_KeptBook_closed : FnScope ["self"] ["self"] (defScope s_KeptBook_closed) := ⟨rfl, rfl, rfl, by decide +kernel, rfl, by decide +kernel, by decide +kernel⟩
theorem ok_KeptBook_closed {C_KeptBook : Addr} (D : DefM K C_KeptBook "closed" "KeptBook.closed" s_KeptBook_closed .none) (z_len : mg "len" = none) (cl_KeptBook : Cls K C_KeptBook) (n_book : NoAttr K C_KeptBook "book") (n_kept : NoAttr K C_KeptBook "kept") (n_papers : NoAttr K C_KeptBook "papers") (n_in_force : NoAttr K C_KeptBook "in_force") : CalM P w K mg base CX0 cm 1 C_KeptBook "closed" ["self"] [] (spClo C_KeptBook) := by
 obtain ⟨f, fd, F, hm⟩ := D
 refine ⟨f, fd, _, F.ok sc_KeptBook_closed (fun vs H Q E h => ?_) (fun cdv A outer s H vs Q E hr h => ?_), hm, (F.binds fun _ _ _ _ _ _ us hl => match us, hl with | [_], _ => rfl), .nil, F.binds fun _ _ _ _ _ _ us hl => match us, hl with | [_], _ => rfl⟩
 · obtain ⟨p, kl, pl, fl, f, xs, rfl, R, hf, q⟩ := h
   rfl
 obtain ⟨p, kl, pl, fl, f, xs, rfl, R, hf, q⟩ := h
 have nd := sc_KeptBook_closed.nd
 refine ⟨_, (pss_one (ps_ret (pe_callB call_len_seq rfl z_len bt_len (pa_cons (pe_fld (pv 0) rfl) pa_nil)))), ?_⟩
 obtain ⟨dx, fs, hp, hbk, hke, hpa, hin, hno⟩ := R.ob
 exact ⟨_, rfl, p, C_KeptBook, dx, fs, _, rfl, hp, cl_KeptBook, n_in_force, hin, fl, _, rfl, .inl (SqL.of hf), q⟩
abbrev s_KeptBook_may_enter : Stmt := inClass (top 16) 1
theorem sc_KeptBook_may_enter : FnScope ["self", "day", "month"] ["self", "day"] (defScope s_KeptBook_may_enter) := ⟨rfl, rfl, rfl, by decide +kernel, rfl, by decide +kernel, by decide +kernel⟩
theorem ok_KeptBook_may_enter {C_KeptBook : Addr} (D : DefM K C_KeptBook "may_enter" "KeptBook.may_enter" s_KeptBook_may_enter .none) {C_Closed : Addr} (c_month_of : Cal P w K mg base CX0 true 1 "month_of" ["day"] [] spMon) (c_KeptBook_closed : CalM P w K mg base CX0 true 1 C_KeptBook "closed" ["self"] [] (spClo C_KeptBook)) (c_Closed__init__ : CalX P w K mg base true 1 C_Closed ["self", "book", "month"] (spX2 C_Closed)) (m_Closed : mg "Closed" = some (.ref C_Closed)) (X_Closed : XCls K C_Closed) (cl_KeptBook : Cls K C_KeptBook) (n_book : NoAttr K C_KeptBook "book") (n_kept : NoAttr K C_KeptBook "kept") (n_papers : NoAttr K C_KeptBook "papers") (n_in_force : NoAttr K C_KeptBook "in_force") : CalM P w K mg base (CX1 P w) true 3 C_KeptBook "may_enter" ["self", "day"] [] (spMayE C_KeptBook C_Closed) := by
 obtain ⟨f, fd, F, hm⟩ := D
 obtain ⟨f_month_of, fd_month_of, d_month_of, G_month_of, m_month_of, k_month_of, b_month_of, v_month_of, b_month_of1⟩ := c_month_of
 obtain ⟨f_KeptBook_closed, fd_KeptBook_closed, d_KeptBook_closed, G_KeptBook_closed, m_KeptBook_closed, b_KeptBook_closed, v_KeptBook_closed, b_KeptBook_closed1⟩ := c_KeptBook_closed
 obtain ⟨f_Closed__init__, fd_Closed__init__, i_Closed, fn_Closed, G_Closed__init__, b_Closed__init__⟩ := c_Closed__init__
 refine ⟨f, fd, _, F.okX sc_KeptBook_may_enter (fun vs H Q E h => ?_) (fun cdv A outer s H vs Q E hr h => ?_), hm, (F.binds fun _ _ _ _ _ _ us hl => match us, hl with | [_, _], _ => rfl), .nil, F.binds fun _ _ _ _ _ _ us hl => match us, hl with | [_, _], _ => rfl⟩
 · obtain ⟨p, kl, pl, fl, f, xs, d, rfl, R, hf, q1, q2⟩ := h
   rfl
 obtain ⟨p, kl, pl, fl, f, xs, d, rfl, R, hf, q1, q2⟩ := h
 have nd := sc_KeptBook_may_enter.nd
 refine ⟨_, (pss_cons (ps_set (i := 2) nd rfl (Or.inl rfl) (pe_call G_month_of (hr.mono (by decide)) rfl m_month_of k_month_of b_month_of Paired.nil pass0 (pa_cons (pv 1) pa_nil)))
   (pss_one (ps_if (pt_cmpR op_lt (pv 2) (pe_meth0 (pv 0) cl_KeptBook m_KeptBook_closed G_KeptBook_closed (hr.mono (by decide)) b_KeptBook_closed Paired.nil pass0) (nomark _)) (pss_one (ps_raiseI rfl xe_def rfl m_Closed X_Closed i_Closed fn_Closed G_Closed__init__ (hr.mono (by decide)) b_Closed__init__ (pa_cons (pe_fld (pv 0) rfl) (pa_cons (pv 2) pa_nil)))) pss_nil))), ?_⟩
 obtain ⟨dx, fs, hp, hbk, hke, hpa, hin, hno⟩ := R.ob
 refine ⟨_, rfl, d, rfl, ?_⟩
 refine ⟨_, rfl, _, rfl, p, dx, fs, rfl, hp, hno _ (by decide +kernel), p, kl, pl, fl, f, xs, rfl, R, hf, _, _, rfl, rfl, _, rfl, ?_⟩
 refine dec2 (fun h => ?_) (fun h => q2 (by omega))
 exact ⟨_, rfl, p, C_KeptBook, dx, fs, _, rfl, hp, cl_KeptBook, n_book, hbk, _, rfl, (by show 2 ≤ sizeLine; decide), True.intro, fun x hx0 => ⟨x, _, _, rfl, upd_same, fun e H' hd1 hdx g1 g2 keep => ⟨rfl, some e, g2, q1 h e _ (after_x hx0 keep) (by show (if e = x then none else H' e) = _; rw [if_neg hdx]; exact g1)⟩⟩⟩
abbrev s_KeptBook_post : Stmt := inClass (top 13) 2
theorem sc_KeptBook_post : FnScope ["self", "day", "about", "lines"] ["self", "day", "about", "lines"] (defScope s_KeptBook_post) := ⟨rfl, rfl, rfl, by decide +kernel, rfl, by decide +kernel, by decide +kernel⟩
theorem ok_KeptBook_post {C_KeptBook : Addr} (D : DefM K C_KeptBook "post" "Book.post" s_KeptBook_post .none) {C_Closed : Addr} (c_KeptBook_may_enter : CalM P w K mg base (CX1 P w) true 3 C_KeptBook "may_enter" ["self", "day"] [] (spMayE C_KeptBook C_Closed)) (c_check_entry : Cal P w K mg base CX0 true 2 "check_entry" ["book", "lines"] [] spChk) (z_tuple : mg "tuple" = none) (z_len : mg "len" = none) (cl_KeptBook : Cls K C_KeptBook) (n_book : NoAttr K C_KeptBook "book") (n_kept : NoAttr K C_KeptBook "kept") (n_papers : NoAttr K C_KeptBook "papers") (n_in_force : NoAttr K C_KeptBook "in_force") : CalM P w K mg base (CX1 P w) true 4 C_KeptBook "post" ["self", "day", "about", "lines"] [] (spPostE C_KeptBook C_Closed) := by
 obtain ⟨f, fd, F, hm⟩ := D
 obtain ⟨f_KeptBook_may_enter, fd_KeptBook_may_enter, d_KeptBook_may_enter, G_KeptBook_may_enter, m_KeptBook_may_enter, b_KeptBook_may_enter, v_KeptBook_may_enter, b_KeptBook_may_enter1⟩ := c_KeptBook_may_enter
 obtain ⟨f_check_entry, fd_check_entry, d_check_entry, G_check_entry, m_check_entry, k_check_entry, b_check_entry, v_check_entry, b_check_entry1⟩ := c_check_entry
 refine ⟨f, fd, _, F.okX sc_KeptBook_post (fun vs H Q E h => ?_) (fun cdv A outer s H vs Q E hr h => ?_), hm, (F.binds fun _ _ _ _ _ _ us hl => match us, hl with | [_, _, _, _], _ => rfl), .nil, F.binds fun _ _ _ _ _ _ us hl => match us, hl with | [_, _, _, _], _ => rfl⟩
 · obtain ⟨p, kl, pl, fl, f, xs, es, d, ab, l, L, rfl, R, hf, hk, hes, hl, hL, g, q1, q2⟩ := h
   rfl
 obtain ⟨p, kl, pl, fl, f, xs, es, d, ab, l, L, rfl, R, hf, hk, hes, hl, hL, g, q1, q2⟩ := h
 have nd := sc_KeptBook_post.nd
 refine ⟨_, (pss_cons (ps_expr (pe_methR (pv 0) cl_KeptBook m_KeptBook_may_enter G_KeptBook_may_enter (hr.mono (by decide)) b_KeptBook_may_enter Paired.nil xe_def (pa_cons (pv 1) pa_nil)))
   (pss_cons (ps_expr (pe_call G_check_entry (hr.mono (by decide)) rfl m_check_entry k_check_entry b_check_entry Paired.nil pass0 (pa_cons (pe_fld (pv 0) rfl) (pa_cons (pv 3) pa_nil))))
   (pss_cons (ps_expr (pe_bm PySem.F.plainAttrs_list PySem.F.slot_list_append PySem.F.type_list_append mt_append (pe_fld (pv 0) rfl) (pa_cons (pe_tup (pa_cons (pv 1) (pa_cons (pv 2) (pa_cons (pe_callTy call_tuple_of rfl z_tuple bt_tuple (pa_cons (pv 3) pa_nil)) pa_nil)))) pa_nil)))
   (pss_one (ps_ret (pe_op op_sub (pe_callB call_len_seq rfl z_len bt_len (pa_cons (pe_fld (pv 0) rfl) pa_nil)) pe_int)))))), ?_⟩
 obtain ⟨dx, fs, hp, hbk, hke, hpa, hin, hno⟩ := R.ob
 have hline : 600 ≤ sizeLine := by decide
 refine ⟨_, rfl, p, dx, fs, rfl, hp, hno _ (by decide +kernel), _, rfl, True.intro, p, kl, pl, fl, f, xs, d, rfl, R, hf, q1, fun hle => ?_⟩
 have q := q2 hle
 refine ⟨_, rfl, p, C_KeptBook, dx, fs, _, rfl, hp, cl_KeptBook, n_book, hbk, _, rfl, f, l, L, rfl, hl, hL, g, fun H1 e1 => ?_⟩
 refine ⟨_, rfl, p, C_KeptBook, dx, fs, _, rfl, (e1 _ _ hp), cl_KeptBook, n_kept, hke, .inl ⟨rfl, _, SqL.of (e1 _ _ hk)⟩, _, rfl, _, rfl, _, rfl, l, _, rfl, .inl ⟨SqL.of (e1 _ _ hl), fun t ht => ⟨(by show 3 ≤ sizeLine; decide), fun e he => ?_⟩⟩⟩
 have f1 := same_upd (o := .tup (rf5 L)) ht
 have f2 := same_upd (o := .tup [.int d, .int ab, .ref t]) he
 have f := (e1.trans f1).trans f2
 refine ⟨kl, _, _, rfl, rfl, f _ _ hk, by omega, ?_⟩
 have npk : p ≠ kl := ne_of hp hk (by intro z; cases z)
 have nek : e ≠ kl := ne_of (upd_same (H := _) (a := e) (o := .tup [.int d, .int ab, .ref t])) (f _ _ hk) (by intro z; cases z)
 have ntk : t ≠ kl := ne_of (f2 _ _ (upd_same (H := _) (a := t) (o := .tup (rf5 L)))) (f _ _ hk) (by intro z; cases z)
 refine ⟨_, rfl, p, C_KeptBook, dx, fs, _, rfl, (by rw [upd_ne npk]; exact f _ _ hp), cl_KeptBook, n_kept, hke, kl, _, rfl, .inl (SqL.of upd_same), _, _, rfl, rfl, ?_⟩
 have ev : (((es ++ [V.ref e]).length : Nat) : Int) - 1 = (es.length : Int) := by
   rw [List.length_append]
   show ((es.length + 1 : Nat) : Int) - 1 = _
   omega
 dsimp only
 rw [ev]
 refine q e t _ (fun b o hb nb => by rw [upd_ne nb]; exact f _ _ hb) upd_same ?_ ?_
 · rw [upd_ne nek]
   exact upd_same
 · rw [upd_ne ntk]
   exact f2 _ _ upd_same
abbrev s_KeptBook_spots : Stmt := inClass (top 13) 4
theorem sc_KeptBook_spots : FnScope ["self", "upto", "found", "number", "entry", "place", "line"] ["self", "upto"] (defScope s_KeptBook_spots) := ⟨rfl, rfl, rfl, by decide +kernel, rfl, by decide +kernel, by decide +kernel⟩
theorem ok_KeptBook_spots {C_KeptBook : Addr} {T_KeptBook_spots : Addr} (D : DefM K C_KeptBook "spots" "Book.spots" s_KeptBook_spots (.ref T_KeptBook_spots)) {od_KeptBook_spots : Option Addr} {n_KeptBook_spots : Nat} {sl_KeptBook_spots : Array (Option Value)} (lT_KeptBook_spots : K.lookup T_KeptBook_spots = some ⟨.type "tuple", od_KeptBook_spots, .seq #[.none] n_KeptBook_spots, sl_KeptBook_spots⟩) (c_month_of : Cal P w K mg base CX0 true 1 "month_of" ["day"] [] spMon) (z_enumerate : mg "enumerate" = none) (cl_KeptBook : Cls K C_KeptBook) (n_book : NoAttr K C_KeptBook "book") (n_kept : NoAttr K C_KeptBook "kept") (n_papers : NoAttr K C_KeptBook "papers") (n_in_force : NoAttr K C_KeptBook "in_force") : CalM P w K mg base CX0 true 2 C_KeptBook "spots" ["self", "upto"] [.non] (spSpots C_KeptBook) := by
 obtain ⟨f, fd, F, hm⟩ := D
 obtain ⟨f_month_of, fd_month_of, d_month_of, G_month_of, m_month_of, k_month_of, b_month_of, v_month_of, b_month_of1⟩ := c_month_of
 refine ⟨f, fd, _, F.ok sc_KeptBook_spots (fun vs H Q E h => ?_) (fun cdv A outer s H vs Q E hr h => ?_), hm, (F.bindsD (ds := []) lT_KeptBook_spots 2 rfl fun _ _ _ _ _ _ us hl => match us, hl with | [_, _], _ => ⟨_, rfl, rfl⟩), (.cons rfl .nil), F.bindsD (ds := [.none]) lT_KeptBook_spots 1 rfl fun _ _ _ _ _ _ us hl => match us, hl with | [_], _ => ⟨_, rfl, rfl⟩⟩
 · obtain ⟨p, kl, pl, fl, f, m, E, rfl, R, hk, hE, hEl, q⟩ := h
   rfl
 obtain ⟨p, kl, pl, fl, f, m, E, rfl, R, hk, hE, hEl, q⟩ := h
 have nd := sc_KeptBook_spots.nd
 refine ⟨_, (pss_cons (ps_set (i := 2) nd rfl (Or.inl rfl) (pe_lst pa_nil))
   (pss_cons (ps_for PassesOwn.never rfl (pi_enum rfl z_enumerate (pa_cons (pe_fld (pv 0) rfl) pa_nil)) (pg_tup rfl (pgs_cons (pg_name (i := 3) nd rfl (Or.inl rfl)) (pgs_cons (pg_name (i := 4) nd rfl (Or.inl rfl)) pgs_nil))) (pss_one (ps_if (PW.pt (pw_or (pt_cmpR op_isN (pv 1) pe_non (nomark _)) (pw_or1 (pt_cmpR op_le (pe_call G_month_of (hr.mono (by decide)) rfl m_month_of k_month_of b_month_of Paired.nil pass0 (pa_cons (pe_ix ix_seq (pv 4) pe_int (fun _ _ => rfl)) pa_nil)) (pv 1) (nomark _))))) (pss_one (ps_for PassesOwn.never rfl (pi_enumT rfl z_enumerate (pa_cons (pe_ix ix_seq (pv 4) pe_int (fun _ _ => rfl)) pa_nil)) (pg_tup rfl (pgs_cons (pg_name (i := 5) nd rfl (Or.inl rfl)) (pgs_cons (pg_name (i := 6) nd rfl (Or.inl rfl)) pgs_nil))) (pss_one (ps_expr (pe_bm PySem.F.plainAttrs_list PySem.F.slot_list_append PySem.F.type_list_append mt_append (pv 2) (pa_cons (pe_tup (pa_cons (pe_tup (pa_cons (pe_fld (pv 0) rfl) (pa_cons (pv 3) (pa_cons (pv 5) pa_nil)))) (pa_cons (pv 6) pa_nil))) pa_nil)))))) pss_nil)))
   (pss_one (ps_ret (pv 2))))), ?_⟩
 obtain ⟨dx, fs, hp, hbk, hke, hpa, hin, hno⟩ := R.ob
 have hline : 600 ≤ sizeLine := by decide
 refine ⟨(by show 0 ≤ sizeLine; decide), fun r hr0 => ?_⟩
 have e1 := same_upd (o := .lst []) hr0
 have hD : ∀ i, (upto ((dl E).take i) m).length ≤ 80 := fun i => by
   have h := upto_len (D := (dl E).take i) (m := m) (fun d hd => by
     obtain ⟨e, he, rfl⟩ := List.mem_map.mp (List.mem_of_mem_take hd)
     exact (hE e he).2.2.2)
   rw [List.length_take] at h
   have : (dl E).length = E.length := List.length_map ..
   omega
 have eN := rfE_len E
 refine ⟨_, rfl, p, C_KeptBook, dx, fs, _, rfl, (e1 _ _ hp), cl_KeptBook, n_kept, hke, kl, rfl, ⟨_, SqL.of (e1 _ _ hk)⟩, ?_⟩
 refine for_enum (xs := rfE E) (fun i σ H' => ∃ (o3 o4 o5 o6 : Option V) (T : List Tp), σ = [some (.ref p), some (.int m), some (.ref r), o3, o4, o5, o6] ∧ Same H H' ∧ H' r = some (.lst (rfT T)) ∧ TpL H' T ∧ T.map (·.2) = upto ((dl E).take i) m) ⟨_, _, _, _, [], rfl, e1, upd_same, (fun z hz => nomatch hz), rfl⟩ ?_ ?_ ?_
 · rintro i σ H1 hi ⟨o3, o4, o5, o6, T, rfl, e, _⟩
   exact SqL.of (e _ _ hk)
 · rintro i x σ H1 t hx ⟨o3, o4, o5, o6, T, rfl, e, hrr, hT, hTu⟩ ht
   obtain ⟨z, hz, rfl⟩ := rfE_at hx
   have hzm := List.mem_of_getElem? hz
   have f1 := same_upd (o := .tup [.int (i : Int), .ref z.1]) ht
   have g1 := e.trans f1
   have hzE := (hE.same g1) z hzm
   have hzT := SqT.of (K := K) hzE.1
   have nx := upto_nx (m := m) (show (dl E)[i]? = some (z.2.1, z.2.2.2.2) by unfold dl; rw [List.getElem?_map, hz]; rfl)
   refine ⟨t, _, rfl, SqT.of upd_same, rfl, _, _, rfl, _, _, rfl, rfl, ?_⟩
   refine ⟨_, rfl, rfl, _, rfl, decF (fun h => by cases h) ?_⟩
   refine ⟨_, rfl, .inr (.inl ⟨z.1, _, 0, _, rfl, rfl, hzT, rfl, z.2.1, rfl, _, rfl, _, _, rfl, rfl, _, rfl, ?_⟩)⟩
   refine dec2 (fun h => ?_) (fun h => ?_)
   · rw [if_pos h] at nx
     refine ⟨_, rfl, .inr (.inl ⟨z.1, _, 2, _, rfl, rfl, hzT, rfl, z.2.2.2.1, rfl, ⟨_, SqT.of hzE.2.1⟩, ?_⟩)⟩
     refine for_enumT (xs := rf5 z.2.2.2.2) (fun j σ H' => ∃ (o5 o6 : Option V) (T' : List Tp), σ = [some (.ref p), some (.int m), some (.ref r), some (.int (i : Int)), some (.ref z.1), o5, o6] ∧ Same H H' ∧ H' r = some (.lst (rfT T')) ∧ TpL H' T' ∧ T'.map (·.2) = upto ((dl E).take i) m ++ z.2.2.2.2.take j) ⟨_, _, T, rfl, g1, f1 _ _ hrr, (fun y hy => by obtain ⟨s, hs⟩ := hT y hy; exact ⟨s, f1 _ _ hs⟩), by rw [hTu]; simp⟩ ?_ ?_ ?_
     · rintro j σ H2 hj ⟨o5, o6, T', rfl, e2, _⟩
       exact SqT.of ((hE.same e2) z hzm).2.1
     · rintro j x σ H2 t2 hx2 ⟨o5, o6, T', rfl, e2, hr2, hT2, hTu2⟩ ht2
       obtain ⟨y, hy, rfl⟩ := rf5_at hx2
       have f2 := same_upd (o := .tup [.int (j : Int), .ref y.1]) ht2
       have hTl : T'.length ≤ 100 := by
         have a := congrArg List.length hTu2
         rw [List.length_map, List.length_append, List.length_take] at a
         have b := hD i
         have c := (hE z hzm).2.2.2
         omega
       refine ⟨t2, _, rfl, SqT.of upd_same, rfl, _, _, rfl, _, _, rfl, rfl, ?_⟩
       refine ⟨_, rfl, .inl ⟨rfl, _, SqL.of (f2 _ _ hr2)⟩, _, rfl, p, C_KeptBook, dx, fs, _, rfl, (f2 _ _ (e2 _ _ hp)), cl_KeptBook, n_book, hbk, _, rfl, _, rfl, (by show 3 ≤ sizeLine; decide), fun s hs => ⟨_, rfl, (by show 2 ≤ sizeLine; decide), fun u hu => ?_⟩⟩
       have f3 := same_upd (o := .tup [.str f, .int (i : Int), .int (j : Int)]) hs
       have f4 := same_upd (o := .tup [.ref s, .ref y.1]) hu
       have f234 := (f2.trans f3).trans f4
       refine ⟨r, _, _, rfl, rfl, f234 _ _ hr2, by rw [rfT_len]; omega, ?_⟩
       refine ⟨_, _, T' ++ [(u, y)], rfl, same_set (e2.trans f234) hr0, by rw [upd_same, rfT_app]; rfl, fun v hv => ?_, ?_⟩
       · rcases List.mem_append.mp hv with w | w
         · obtain ⟨s2, hs2⟩ := hT2 v w
           exact ⟨s2, tup_keepL (f234 _ _ hs2) (f234 _ _ hr2)⟩
         · rw [List.mem_singleton.mp w]
           exact ⟨s, tup_keepL upd_same (f234 _ _ hr2)⟩
       · rw [List.map_append, hTu2, take_nx hy, List.append_assoc]
         rfl
     · rintro σ H2 ⟨o5, o6, T', rfl, e2, hr2, hT2, hTu2⟩
       refine ⟨_, _, _, _, T', rfl, e2, hr2, hT2, ?_⟩
       rw [nx, hTu2, rf5_len, List.take_length]
   · rw [if_neg h, List.append_nil] at nx
     exact ⟨_, _, _, _, T, rfl, g1, f1 _ _ hrr, (fun y hy => by obtain ⟨s, hs⟩ := hT y hy; exact ⟨s, f1 _ _ hs⟩), by rw [nx]; exact hTu⟩
 rintro σ H1 ⟨o3, o4, o5, o6, T, rfl, e, hrr, hT, hTu⟩
 rw [rfE_len, show (dl E).take E.length = dl E by rw [show E.length = (dl E).length from (List.length_map ..).symm, List.take_length]] at hTu
 exact ⟨_, rfl, q r T _ e hrr hT hTu⟩
abbrev s_KeptBook_lines_upto : Stmt := inClass (top 13) 5
theorem sc_KeptBook_lines_upto : FnScope ["self", "upto"] ["self", "upto"] (defScope s_KeptBook_lines_upto) := ⟨rfl, rfl, rfl, by decide +kernel, rfl, by decide +kernel, by decide +kernel⟩
theorem ok_KeptBook_lines_upto {C_KeptBook : Addr} {T_KeptBook_lines_upto : Addr} (D : DefM K C_KeptBook "lines_upto" "Book.lines_upto" s_KeptBook_lines_upto (.ref T_KeptBook_lines_upto)) {od_KeptBook_lines_upto : Option Addr} {n_KeptBook_lines_upto : Nat} {sl_KeptBook_lines_upto : Array (Option Value)} (lT_KeptBook_lines_upto : K.lookup T_KeptBook_lines_upto = some ⟨.type "tuple", od_KeptBook_lines_upto, .seq #[.none] n_KeptBook_lines_upto, sl_KeptBook_lines_upto⟩) (c_KeptBook_spots : CalM P w K mg base CX0 true 2 C_KeptBook "spots" ["self", "upto"] [.non] (spSpots C_KeptBook)) (cl_KeptBook : Cls K C_KeptBook) (n_book : NoAttr K C_KeptBook "book") (n_kept : NoAttr K C_KeptBook "kept") (n_papers : NoAttr K C_KeptBook "papers") (n_in_force : NoAttr K C_KeptBook "in_force") : CalM P w K mg base CX0 true 3 C_KeptBook "lines_upto" ["self", "upto"] [.non] (spUpto C_KeptBook) := by
 obtain ⟨f, fd, F, hm⟩ := D
 obtain ⟨f_KeptBook_spots, fd_KeptBook_spots, d_KeptBook_spots, G_KeptBook_spots, m_KeptBook_spots, b_KeptBook_spots, v_KeptBook_spots, b_KeptBook_spots1⟩ := c_KeptBook_spots
 refine ⟨f, fd, _, F.ok sc_KeptBook_lines_upto (fun vs H Q E h => ?_) (fun cdv A outer s H vs Q E hr h => ?_), hm, (F.bindsD (ds := []) lT_KeptBook_lines_upto 2 rfl fun _ _ _ _ _ _ us hl => match us, hl with | [_, _], _ => ⟨_, rfl, rfl⟩), (.cons rfl .nil), F.bindsD (ds := [.none]) lT_KeptBook_lines_upto 1 rfl fun _ _ _ _ _ _ us hl => match us, hl with | [_], _ => ⟨_, rfl, rfl⟩⟩
 · obtain ⟨p, kl, pl, fl, f, m, E, rfl, R, hk, hE, hEl, q⟩ := h
   rfl
 obtain ⟨p, kl, pl, fl, f, m, E, rfl, R, hk, hE, hEl, q⟩ := h
 have nd := sc_KeptBook_lines_upto.nd
 refine ⟨_, (pss_one (ps_ret (pe_lcT (xs := ["spot", "line"]) [] rfl (LcOkT.plain (xs := ["spot", "line"]) (by decide +kernel) (by decide +kernel) rfl (by decide +kernel) (by decide +kernel) (by decide +kernel)) (pi_list (pe_meth (pv 0) cl_KeptBook m_KeptBook_spots G_KeptBook_spots (hr.mono (by decide)) b_KeptBook_spots Paired.nil pass0 (pa_cons (pv 1) pa_nil))) (pg_tup2T rfl (LcOkT.plain (xs := ["spot", "line"]) (by decide +kernel) (by decide +kernel) rfl (by decide +kernel) (by decide +kernel) (by decide +kernel))) (fun C s2 H2 fp xe => (pv 1))))), ?_⟩
 obtain ⟨dx, fs, hp, hbk, hke, hpa, hin, hno⟩ := R.ob
 have hline : 600 ≤ sizeLine := by decide
 refine ⟨_, rfl, p, dx, fs, rfl, hp, hno _ (by decide +kernel), _, rfl, p, kl, pl, fl, f, m, E, rfl, R, hk, hE, hEl, fun r T H1 e1 hr1 hT hTu => ⟨r, rfl, ⟨_, SqL.of hr1⟩, ?_⟩⟩
 have hTl : T.length ≤ 80 := by
   have a := congrArg List.length hTu
   rw [List.length_map] at a
   have b := upto_len (D := dl E) (m := m) (fun d hd => by
     obtain ⟨e, he, rfl⟩ := List.mem_map.mp hd
     exact (hE e he).2.2.2)
   have c : (dl E).length = E.length := List.length_map ..
   omega
 refine lc_list (xs := rfT T) (fun j ys H2 => ys = (T.take j).map (fun z => V.ref z.2.1) ∧ H2 = H1) ⟨rfl, rfl⟩ (by rw [rfT_len]; omega) ?_ ?_ ?_
 · rintro j ys H2 hj ⟨rfl, rfl⟩
   rw [rfT_len] at hj
   exact ⟨SqL.of hr1, by rw [List.length_map, List.length_take]; omega⟩
 · rintro j x ys H2 hx ⟨rfl, rfl⟩ σ0 h0
   obtain ⟨y, hy, rfl⟩ := rfT_at hx
   obtain ⟨u, v, rfl⟩ : ∃ u v, σ0 = [u, v] := by
     rcases σ0 with _ | ⟨u, _ | ⟨v, _ | ⟨w, r⟩⟩⟩ <;> simp at h0
     exact ⟨u, v, rfl⟩
   obtain ⟨s, hs⟩ := hT y (List.mem_of_getElem? hy)
   refine ⟨y.1, _, rfl, SqT.of hs, rfl, _, _, rfl, _, _, rfl, rfl, [_, _], rfl, rfl, _, rfl, ?_, rfl⟩
   rw [take_nx hy, List.map_append]
   rfl
 rintro ys H2 ⟨rfl, rfl⟩ l3 hl3
 rw [rfT_len, List.take_length]
 have em : T.map (fun z => V.ref z.2.1) = rf5 (upto (dl E) m) := by
   rw [← hTu]
   unfold rf5
   rw [List.map_map]
   rfl
 rw [em]
 exact q l3 _ (e1.trans (same_upd hl3)) upd_same
abbrev s_KeptBook_figures : Stmt := inClass (top 13) 6
theorem sc_KeptBook_figures : FnScope ["self", "upto"] ["self", "upto"] (defScope s_KeptBook_figures) := ⟨rfl, rfl, rfl, by decide +kernel, rfl, by decide +kernel, by decide +kernel⟩
theorem ok_KeptBook_figures {C_KeptBook : Addr} {T_KeptBook_figures : Addr} (D : DefM K C_KeptBook "figures" "Book.figures" s_KeptBook_figures (.ref T_KeptBook_figures)) {od_KeptBook_figures : Option Addr} {n_KeptBook_figures : Nat} {sl_KeptBook_figures : Array (Option Value)} (lT_KeptBook_figures : K.lookup T_KeptBook_figures = some ⟨.type "tuple", od_KeptBook_figures, .seq #[.none] n_KeptBook_figures, sl_KeptBook_figures⟩) (c_figures_of : Cal P w K mg base CX0 true 2 "figures_of" ["lines"] [] spFigs) (c_KeptBook_lines_upto : CalM P w K mg base CX0 true 3 C_KeptBook "lines_upto" ["self", "upto"] [.non] (spUpto C_KeptBook)) (cl_KeptBook : Cls K C_KeptBook) (n_book : NoAttr K C_KeptBook "book") (n_kept : NoAttr K C_KeptBook "kept") (n_papers : NoAttr K C_KeptBook "papers") (n_in_force : NoAttr K C_KeptBook "in_force") : CalM P w K mg base CX0 true 4 C_KeptBook "figures" ["self", "upto"] [.non] (spFigures C_KeptBook) := by
 obtain ⟨f, fd, F, hm⟩ := D
 obtain ⟨f_figures_of, fd_figures_of, d_figures_of, G_figures_of, m_figures_of, k_figures_of, b_figures_of, v_figures_of, b_figures_of1⟩ := c_figures_of
 obtain ⟨f_KeptBook_lines_upto, fd_KeptBook_lines_upto, d_KeptBook_lines_upto, G_KeptBook_lines_upto, m_KeptBook_lines_upto, b_KeptBook_lines_upto, v_KeptBook_lines_upto, b_KeptBook_lines_upto1⟩ := c_KeptBook_lines_upto
 refine ⟨f, fd, _, F.ok sc_KeptBook_figures (fun vs H Q E h => ?_) (fun cdv A outer s H vs Q E hr h => ?_), hm, (F.bindsD (ds := []) lT_KeptBook_figures 2 rfl fun _ _ _ _ _ _ us hl => match us, hl with | [_, _], _ => ⟨_, rfl, rfl⟩), (.cons rfl .nil), F.bindsD (ds := [.none]) lT_KeptBook_figures 1 rfl fun _ _ _ _ _ _ us hl => match us, hl with | [_], _ => ⟨_, rfl, rfl⟩⟩
 · obtain ⟨p, kl, pl, fl, f, m, E, rfl, R, hk, hE, hEl, hky, q⟩ := h
   rfl
 obtain ⟨p, kl, pl, fl, f, m, E, rfl, R, hk, hE, hEl, hky, q⟩ := h
 have nd := sc_KeptBook_figures.nd
 refine ⟨_, (pss_one (ps_ret (pe_call G_figures_of (hr.mono (by decide)) rfl m_figures_of k_figures_of b_figures_of Paired.nil pass0 (pa_cons (pe_meth (pv 0) cl_KeptBook m_KeptBook_lines_upto G_KeptBook_lines_upto (hr.mono (by decide)) b_KeptBook_lines_upto Paired.nil pass0 (pa_cons (pv 1) pa_nil)) pa_nil)))), ?_⟩
 obtain ⟨dx, fs, hp, hbk, hke, hpa, hin, hno⟩ := R.ob
 have hline : 600 ≤ sizeLine := by decide
 have b := upto_len (D := dl E) (m := m) (fun d hd => by
   obtain ⟨e, he, rfl⟩ := List.mem_map.mp hd
   exact (hE e he).2.2.2)
 have c : (dl E).length = E.length := List.length_map ..
 refine ⟨_, rfl, p, dx, fs, rfl, hp, hno _ (by decide +kernel), _, rfl, p, kl, pl, fl, f, m, E, rfl, R, hk, hE, hEl, fun r H1 e1 hr1 => ?_⟩
 refine ⟨r, upto (dl E) m, rfl, hr1, fun z hz => ?_, by omega, hky, fun g F H2 e2 hg0 hg hF hFg => q g F H2 (e1.trans e2) (e1.free hg0) hg hF hFg⟩
 unfold upto at hz
 obtain ⟨d, hd, hz⟩ := List.mem_flatMap.mp hz
 obtain ⟨e, he, rfl⟩ := List.mem_map.mp hd
 split at hz
 · exact e1 _ _ ((hE e he).2.2.1 z hz)
 · cases hz
theorem sc_paper_copy : FnScope ["paper"] ["paper"] (defScope s_paper_copy) := ⟨rfl, rfl, rfl, by decide +kernel, rfl, by decide +kernel, by decide +kernel⟩
theorem ok_paper_copy (D : Def K mg "paper_copy" s_paper_copy .none) (z_list : mg "list" = none) : Cal P w K mg base CX0 cm 1 "paper_copy" ["paper"] [] spCopy := by
 obtain ⟨f, fd, F, hm⟩ := D
 refine ⟨f, fd, _, F.ok sc_paper_copy (fun vs H Q E h => ?_) (fun cdv A outer s H vs Q E hr h => ?_), hm, F.kp, (F.binds fun _ _ _ _ _ _ us hl => match us, hl with | [_], _ => rfl), .nil, F.binds fun _ _ _ _ _ _ us hl => match us, hl with | [_], _ => rfl⟩
 · obtain ⟨f, k, tt, z, rfl, hz, q⟩ := h
   rfl
 obtain ⟨f, k, tt, z, rfl, hz, q⟩ := h
 have nd := sc_paper_copy.nd
 refine ⟨_, (pss_one (ps_ret (pe_tup (pa_cons (pe_ix ix_seq (pv 0) pe_int (fun _ _ => rfl)) (pa_cons (pe_ix ix_seq (pv 0) pe_int (fun _ _ => rfl)) (pa_cons (pe_ix ix_seq (pv 0) pe_int (fun _ _ => rfl)) (pa_cons (pe_callTy call_list_of rfl z_list bt_list (pa_cons (pe_ix ix_seq (pv 0) pe_int (fun _ _ => rfl)) pa_nil)) pa_nil))))))), ?_⟩
 have hT := SqT.of (K := K) hz.1
 refine ⟨_, rfl, .inr (.inl ⟨z.1, _, 0, _, rfl, rfl, hT, rfl, _, rfl, .inr (.inl ⟨z.1, _, 1, _, rfl, rfl, hT, rfl, _, rfl, .inr (.inl ⟨z.1, _, 2, _, rfl, rfl, hT, rfl, _, rfl, .inr (.inl ⟨z.1, _, 3, _, rfl, rfl, hT, rfl, z.2.1, _, rfl, .inl (SqL.of hz.2.1), fun l hl => ⟨(by show 4 ≤ sizeLine; decide), fun t ht => ?_⟩⟩)⟩)⟩)⟩)⟩
 have f1 := same_upd (o := .lst (rf4 z.2.2)) hl
 have f2 := same_upd (o := .tup [.str f, .int k, .int tt, .ref l]) ht
 exact q (t, l, z.2.2) _ (f1.trans f2) (f1.free ht) hl ⟨upd_same, f2 _ _ upd_same, hz.2.2.same (f1.trans f2)⟩ rfl
abbrev s_KeptBook_close : Stmt := inClass (top 16) 3
theorem sc_KeptBook_close : FnScope ["self", "month", "paper"] ["self"] (defScope s_KeptBook_close) := ⟨rfl, rfl, rfl, by decide +kernel, rfl, by decide +kernel, by decide +kernel⟩
theorem ok_KeptBook_close {C_KeptBook : Addr} (D : DefM K C_KeptBook "close" "KeptBook.close" s_KeptBook_close .none) (c_KeptBook_closed : CalM P w K mg base CX0 true 1 C_KeptBook "closed" ["self"] [] (spClo C_KeptBook)) (c_KeptBook_figures : CalM P w K mg base CX0 true 4 C_KeptBook "figures" ["self", "upto"] [.non] (spFigures C_KeptBook)) (c_paper_copy : Cal P w K mg base CX0 true 1 "paper_copy" ["paper"] [] spCopy) (z_len : mg "len" = none) (cl_KeptBook : Cls K C_KeptBook) (n_book : NoAttr K C_KeptBook "book") (n_kept : NoAttr K C_KeptBook "kept") (n_papers : NoAttr K C_KeptBook "papers") (n_in_force : NoAttr K C_KeptBook "in_force") : CalM P w K mg base CX0 true 5 C_KeptBook "close" ["self"] [] (spClose C_KeptBook) := by
 obtain ⟨f, fd, F, hm⟩ := D
 obtain ⟨f_KeptBook_closed, fd_KeptBook_closed, d_KeptBook_closed, G_KeptBook_closed, m_KeptBook_closed, b_KeptBook_closed, v_KeptBook_closed, b_KeptBook_closed1⟩ := c_KeptBook_closed
 obtain ⟨f_KeptBook_figures, fd_KeptBook_figures, d_KeptBook_figures, G_KeptBook_figures, m_KeptBook_figures, b_KeptBook_figures, v_KeptBook_figures, b_KeptBook_figures1⟩ := c_KeptBook_figures
 obtain ⟨f_paper_copy, fd_paper_copy, d_paper_copy, G_paper_copy, m_paper_copy, k_paper_copy, b_paper_copy, v_paper_copy, b_paper_copy1⟩ := c_paper_copy
 refine ⟨f, fd, _, F.ok sc_KeptBook_close (fun vs H Q E h => ?_) (fun cdv A outer s H vs Q E hr h => ?_), hm, (F.binds fun _ _ _ _ _ _ us hl => match us, hl with | [_], _ => rfl), .nil, F.binds fun _ _ _ _ _ _ us hl => match us, hl with | [_], _ => rfl⟩
 · obtain ⟨p, kl, pl, fl, f, E, ps, Z, rfl, R, hk, hE, hEl, hky, hpl, hfl, hpsl, hZl, hne, q⟩ := h
   rfl
 obtain ⟨p, kl, pl, fl, f, E, ps, Z, rfl, R, hk, hE, hEl, hky, hpl, hfl, hpsl, hZl, hne, q⟩ := h
 have nd := sc_KeptBook_close.nd
 refine ⟨_, (pss_cons (ps_set (i := 1) nd rfl (Or.inl rfl) (pe_meth0 (pv 0) cl_KeptBook m_KeptBook_closed G_KeptBook_closed (hr.mono (by decide)) b_KeptBook_closed Paired.nil pass0))
   (pss_cons (ps_set (i := 2) nd rfl (Or.inl rfl) (pe_tup (pa_cons (pe_fld (pv 0) rfl) (pa_cons (pv 1) (pa_cons (pe_op op_add (pe_callB call_len_seq rfl z_len bt_len (pa_cons (pe_fld (pv 0) rfl) pa_nil)) pe_int) (pa_cons (pe_meth (pv 0) cl_KeptBook m_KeptBook_figures G_KeptBook_figures (hr.mono (by decide)) b_KeptBook_figures Paired.nil pass0 (pa_cons (pv 1) pa_nil)) pa_nil))))))
   (pss_cons (ps_expr (pe_bm PySem.F.plainAttrs_list PySem.F.slot_list_append PySem.F.type_list_append mt_append (pe_fld (pv 0) rfl) (pa_cons (pv 2) pa_nil)))
   (pss_cons (ps_expr (pe_bm PySem.F.plainAttrs_list PySem.F.slot_list_append PySem.F.type_list_append mt_append (pe_fld (pv 0) rfl) (pa_cons (pv 2) pa_nil)))
   (pss_one (ps_ret (pe_call G_paper_copy (hr.mono (by decide)) rfl m_paper_copy k_paper_copy b_paper_copy Paired.nil pass0 (pa_cons (pv 2) pa_nil)))))))), ?_⟩
 obtain ⟨dx, fs, hp, hbk, hke, hpa, hin, hno⟩ := R.ob
 have hline : 600 ≤ sizeLine := by decide
 refine ⟨_, rfl, p, dx, fs, rfl, hp, hno _ (by decide +kernel), p, kl, pl, fl, f, _, rfl, R, hfl, ?_⟩
 rw [rfP_len]
 refine ⟨_, rfl, p, C_KeptBook, dx, fs, _, rfl, hp, cl_KeptBook, n_book, hbk, _, rfl, _, rfl, p, C_KeptBook, dx, fs, _, rfl, hp, cl_KeptBook, n_papers, hpa, pl, _, rfl, .inl (SqL.of hpl), _, _, rfl, rfl, _, rfl, p, dx, fs, rfl, hp, hno _ (by decide +kernel), _, rfl, p, kl, pl, fl, f, _, E, rfl, R, hk, hE, hEl, hky, fun g F H1 e1 hg0 hg hF hFg => ⟨(by show 4 ≤ sizeLine; decide), fun t ht => ?_⟩⟩
 have f1 := same_upd (o := .tup [.str f, .int (Z.length : Int), .int ((ps.length : Int) + 1), .ref g]) ht
 have fe := e1.trans f1
 have npp : p ≠ pl := ne_of hp hpl (by intro z; cases z)
 have npf : p ≠ fl := ne_of hp hfl (by intro z; cases z)
 have ngp : g ≠ pl := (ne_of_none hpl hg0).symm
 have ngf : g ≠ fl := (ne_of_none hfl hg0).symm
 have zl := rfP_len Z
 refine ⟨_, rfl, p, C_KeptBook, dx, fs, _, rfl, (fe _ _ hp), cl_KeptBook, n_papers, hpa, .inl ⟨rfl, _, SqL.of (fe _ _ hpl)⟩, _, rfl, pl, _, _, rfl, rfl, fe _ _ hpl, by omega, ?_⟩
 have hfl2 : upd (upd H1 t (.tup [.str f, .int (Z.length : Int), .int ((ps.length : Int) + 1), .ref g])) pl (.lst (ps ++ [.ref t])) fl = some (.lst (rfP Z)) := by
   rw [upd_ne (Ne.symm hne)]
   exact fe _ _ hfl
 refine ⟨_, rfl, p, C_KeptBook, dx, fs, _, rfl, (by rw [upd_ne npp]; exact fe _ _ hp), cl_KeptBook, n_in_force, hin, .inl ⟨rfl, _, SqL.of hfl2⟩, _, rfl, fl, _, _, rfl, rfl, hfl2, by omega, ?_⟩
 have tk : ∀ b o, upd H1 t (.tup [.str f, .int (Z.length : Int), .int ((ps.length : Int) + 1), .ref g]) b = some o → b ≠ pl → b ≠ fl → upd (upd (upd H1 t (.tup [.str f, .int (Z.length : Int), .int ((ps.length : Int) + 1), .ref g])) pl (.lst (ps ++ [.ref t]))) fl (.lst (rfP Z ++ [.ref t])) b = some o := fun b o h n1 n2 => by
   rw [upd_ne n2, upd_ne n1]
   exact h
 have tn : ∀ b o, upd H1 t (.tup [.str f, .int (Z.length : Int), .int ((ps.length : Int) + 1), .ref g]) b = some (.tup o) → b ≠ pl ∧ b ≠ fl := fun b o h => ⟨ne_of h (fe _ _ hpl) (by intro z; cases z), ne_of h (fe _ _ hfl) (by intro z; cases z)⟩
 have hz : Pap (upd (upd (upd H1 t (.tup [.str f, .int (Z.length : Int), .int ((ps.length : Int) + 1), .ref g])) pl (.lst (ps ++ [.ref t]))) fl (.lst (rfP Z ++ [.ref t]))) f Z.length (ps.length + 1) (t, g, F) := by
   refine ⟨tk _ _ upd_same (tn _ _ upd_same).1 (tn _ _ upd_same).2, tk _ _ (f1 _ _ hg) ngp ngf, fun y hy => ?_⟩
   have h := f1 _ _ (hF y hy)
   exact tk _ _ h (tn _ _ h).1 (tn _ _ h).2
 have hp3 : upd (upd (upd H1 t (.tup [.str f, .int (Z.length : Int), .int ((ps.length : Int) + 1), .ref g])) pl (.lst (ps ++ [.ref t]))) fl (.lst (rfP Z ++ [.ref t])) pl = some (.lst (ps ++ [.ref t])) := by
   rw [upd_ne hne, upd_same]
 have hf3 : upd (upd (upd H1 t (.tup [.str f, .int (Z.length : Int), .int ((ps.length : Int) + 1), .ref g])) pl (.lst (ps ++ [.ref t]))) fl (.lst (rfP Z ++ [.ref t])) fl = some (.lst (rfP (Z ++ [(t, g, F)]))) := by
   rw [upd_same, rfP_app]
   rfl
 have kp : ∀ b o, H b = some o → b ≠ pl → b ≠ fl → upd (upd (upd H1 t (.tup [.str f, .int (Z.length : Int), .int ((ps.length : Int) + 1), .ref g])) pl (.lst (ps ++ [.ref t]))) fl (.lst (rfP Z ++ [.ref t])) b = some o := fun b o h n1 n2 => tk _ _ (fe _ _ h) n1 n2
 have kpl : ∀ b, upd (upd (upd H1 t (.tup [.str f, .int (Z.length : Int), .int ((ps.length : Int) + 1), .ref g])) pl (.lst (ps ++ [.ref t]))) fl (.lst (rfP Z ++ [.ref t])) b = none → H b = none := fun b h => by
   cases hb : H b with
   | none => rfl
   | some o =>
     by_cases n1 : b = pl
     · rw [n1, hp3] at h
       cases h
     · by_cases n2 : b = fl
       · rw [n2, hf3] at h
         cases h
       · rw [kp b o hb n1 n2] at h
         cases h
 generalize upd (upd (upd H1 t (.tup [.str f, .int (Z.length : Int), .int ((ps.length : Int) + 1), .ref g])) pl (.lst (ps ++ [.ref t]))) fl (.lst (rfP Z ++ [.ref t])) = H3 at hz hp3 hf3 kp kpl ⊢
 refine ⟨_, rfl, f, Z.length, ps.length + 1, (t, g, F), rfl, hz, fun y H4 e4 hy1 hy2 hy hgs => ?_⟩
 refine q (t, g, F) y H4 (fun b o h n1 n2 => e4 _ _ (kp b o h n1 n2)) (e4 _ _ hp3) (e4 _ _ hf3) (hz.same e4) hy hgs hFg hg0 (kpl _ hy2) (fun w => ?_)
 have := hz.2.1
 rw [w] at hy2
 rw [show ((t, g, F) : Pp).2.1 = g from rfl] at hy2 this
 rw [this] at hy2
 cases hy2
abbrev s_KeptBook_reopen : Stmt := inClass (top 16) 4
theorem sc_KeptBook_reopen : FnScope ["self", "paper", "month"] ["self", "paper"] (defScope s_KeptBook_reopen) := ⟨rfl, rfl, rfl, by decide +kernel, rfl, by decide +kernel, by decide +kernel⟩
theorem ok_KeptBook_reopen {C_KeptBook : Addr} (D : DefM K C_KeptBook "reopen" "KeptBook.reopen" s_KeptBook_reopen .none) {C_BadPaper : Addr} (c_KeptBook_closed : CalM P w K mg base CX0 true 1 C_KeptBook "closed" ["self"] [] (spClo C_KeptBook)) (c_BadPaper__init__ : CalX P w K mg base true 1 C_BadPaper ["self", "book", "month"] (spX2 C_BadPaper)) (m_BadPaper : mg "BadPaper" = some (.ref C_BadPaper)) (X_BadPaper : XCls K C_BadPaper) (cl_KeptBook : Cls K C_KeptBook) (n_book : NoAttr K C_KeptBook "book") (n_kept : NoAttr K C_KeptBook "kept") (n_papers : NoAttr K C_KeptBook "papers") (n_in_force : NoAttr K C_KeptBook "in_force") : CalM P w K mg base (CX1 P w) true 3 C_KeptBook "reopen" ["self", "paper"] [] (spReoE C_KeptBook C_BadPaper) := by
 obtain ⟨f, fd, F, hm⟩ := D
 obtain ⟨f_KeptBook_closed, fd_KeptBook_closed, d_KeptBook_closed, G_KeptBook_closed, m_KeptBook_closed, b_KeptBook_closed, v_KeptBook_closed, b_KeptBook_closed1⟩ := c_KeptBook_closed
 obtain ⟨f_BadPaper__init__, fd_BadPaper__init__, i_BadPaper, fn_BadPaper, G_BadPaper__init__, b_BadPaper__init__⟩ := c_BadPaper__init__
 refine ⟨f, fd, _, F.okX sc_KeptBook_reopen (fun vs H Q E h => ?_) (fun cdv A outer s H vs Q E hr h => ?_), hm, (F.binds fun _ _ _ _ _ _ us hl => match us, hl with | [_, _], _ => rfl), .nil, F.binds fun _ _ _ _ _ _ us hl => match us, hl with | [_, _], _ => rfl⟩
 · obtain ⟨p, kl, pl, fl, f, v, Z, rfl, R, hfl, hZl, q1, q2⟩ := h
   rfl
 obtain ⟨p, kl, pl, fl, f, v, Z, rfl, R, hfl, hZl, q1, q2⟩ := h
 have nd := sc_KeptBook_reopen.nd
 refine ⟨_, (pss_cons (ps_set (i := 2) nd rfl (Or.inl rfl) (pe_op op_sub (pe_meth0 (pv 0) cl_KeptBook m_KeptBook_closed G_KeptBook_closed (hr.mono (by decide)) b_KeptBook_closed Paired.nil pass0) pe_int))
   (pss_cons (ps_if (PW.pt (pw_or (pt_cmpR op_lt (pv 2) pe_int (nomark _)) (pw_or1 (pt_not (pt_cmpR (op_eqK hr) (pv 1) (pe_ix ix_seq (pe_fld (pv 0) rfl) (pv 2) (fun _ _ => rfl)) (nomark _)))))) (pss_one (ps_raiseI rfl xe_def rfl m_BadPaper X_BadPaper i_BadPaper fn_BadPaper G_BadPaper__init__ (hr.mono (by decide)) b_BadPaper__init__ (pa_cons (pe_fld (pv 0) rfl) (pa_cons (pv 2) pa_nil)))) pss_nil)
   (pss_one (ps_expr (pe_bm0 PySem.F.plainAttrs_list PySem.F.slot_list_pop PySem.F.type_list_pop mt_pop (pe_fld (pv 0) rfl)))))), ?_⟩
 obtain ⟨dx, fs, hp, hbk, hke, hpa, hin, hno⟩ := R.ob
 refine ⟨_, rfl, p, dx, fs, rfl, hp, hno _ (by decide +kernel), p, kl, pl, fl, f, _, rfl, R, hfl, _, _, rfl, rfl, ?_⟩
 rw [rfP_len]
 rcases List.eq_nil_or_concat Z with hZ | ⟨Z0, z, hZ⟩
 · have r := q1 hZ
   subst hZ
   refine ⟨_, rfl, _, _, rfl, rfl, _, rfl, decT (by decide) ?_⟩
   exact ⟨_, rfl, p, C_KeptBook, dx, fs, _, rfl, hp, cl_KeptBook, n_book, hbk, _, rfl, (by show 2 ≤ sizeLine; decide), True.intro, fun x hx0 => ⟨x, _, _, rfl, upd_same, fun e H' hd1 hdx g1 g2 keep => ⟨rfl, some e, g2, r e _ (after_x hx0 keep) (by show (if e = x then none else H' e) = _; rw [if_neg hdx]; exact g1)⟩⟩⟩
 rw [List.concat_eq_append] at hZ
 obtain ⟨k, tt, b, hz, hd, r1, r2⟩ := q2 Z0 z hZ
 subst hZ
 have zl : (rfP (Z0 ++ [z])).length = Z0.length + 1 := by
   rw [rfP_len, List.length_append]
   rfl
 have hat : atI (rfP (Z0 ++ [z])) (Z0.length : Int) = some (.ref z.1) := atI_nat (by
   unfold rfP
   rw [List.map_append, List.getElem?_append_right (by rw [List.length_map]; exact Nat.le_refl _), List.length_map, Nat.sub_self]
   rfl)
 have hm : ((Z0 ++ [z]).length : Int) - 1 = (Z0.length : Int) := by
   rw [List.length_append]
   show ((Z0.length + 1 : Nat) : Int) - 1 = _
   omega
 dsimp only
 rw [hm]
 refine ⟨_, rfl, _, _, rfl, rfl, _, rfl, decF (by omega) ?_⟩
 refine ⟨_, rfl, _, rfl, p, C_KeptBook, dx, fs, _, rfl, hp, cl_KeptBook, n_in_force, hin, _, rfl, .inl ⟨fl, _, _, _, rfl, rfl, SqL.of hfl, hat, b, hd_op hz hd, b, rfl, ?_⟩⟩
 cases b with
 | false =>
   refine iteT ?_
   exact ⟨_, rfl, p, C_KeptBook, dx, fs, _, rfl, hp, cl_KeptBook, n_book, hbk, _, rfl, (by show 2 ≤ sizeLine; decide), True.intro, fun x hx0 => ⟨x, _, _, rfl, upd_same, fun e H' hd1 hdx g1 g2 keep => ⟨rfl, some e, g2, r1 rfl e _ (after_x hx0 keep) (by show (if e = x then none else H' e) = _; rw [if_neg hdx]; exact g1)⟩⟩⟩
 | true =>
   refine iteF ?_
   refine ⟨_, rfl, p, C_KeptBook, dx, fs, _, rfl, hp, cl_KeptBook, n_in_force, hin, .inl ⟨rfl, _, SqL.of hfl⟩, fl, _, _, rfl, rfl, hfl, (by rw [zl, show Z0.length + 1 - 1 = Z0.length by omega]; unfold rfP; rw [List.map_append, List.getElem?_append_right (by rw [List.length_map]; exact Nat.le_refl _), List.length_map, Nat.sub_self]; rfl), ?_⟩
   refine r2 rfl _ (fun b o h n => by rw [upd_ne n]; exact h) ?_
   rw [upd_same]
   unfold rfP
   rw [List.map_append]
   show some (HO.lst ((Z0.map fun z => V.ref z.1) ++ [V.ref z.1]).dropLast) = _
   rw [List.dropLast_concat]
abbrev s_KeptBook_told_papers : Stmt := inClass (top 16) 5
theorem sc_KeptBook_told_papers : FnScope ["self"] ["self"] (defScope s_KeptBook_told_papers) := ⟨rfl, rfl, rfl, by decide +kernel, rfl, by decide +kernel, by decide +kernel⟩
theorem ok_KeptBook_told_papers {C_KeptBook : Addr} (D : DefM K C_KeptBook "told_papers" "KeptBook.told_papers" s_KeptBook_told_papers .none) (c_paper_copy : Cal P w K mg base CX0 true 1 "paper_copy" ["paper"] [] spCopy) (cl_KeptBook : Cls K C_KeptBook) (n_book : NoAttr K C_KeptBook "book") (n_kept : NoAttr K C_KeptBook "kept") (n_papers : NoAttr K C_KeptBook "papers") (n_in_force : NoAttr K C_KeptBook "in_force") : CalM P w K mg base CX0 true 2 C_KeptBook "told_papers" ["self"] [] (spToldG C_KeptBook) := by
 obtain ⟨f, fd, F, hm⟩ := D
 obtain ⟨f_paper_copy, fd_paper_copy, d_paper_copy, G_paper_copy, m_paper_copy, k_paper_copy, b_paper_copy, v_paper_copy, b_paper_copy1⟩ := c_paper_copy
 refine ⟨f, fd, _, F.ok sc_KeptBook_told_papers (fun vs H Q E h => ?_) (fun cdv A outer s H vs Q E hr h => ?_), hm, (F.binds fun _ _ _ _ _ _ us hl => match us, hl with | [_], _ => rfl), .nil, F.binds fun _ _ _ _ _ _ us hl => match us, hl with | [_], _ => rfl⟩
 · obtain ⟨p, kl, pl, fl, f, Z, G, rfl, R, hpl, hZ, hZl, q⟩ := h
   rfl
 obtain ⟨p, kl, pl, fl, f, Z, G, rfl, R, hpl, hZ, hZl, q⟩ := h
 have nd := sc_KeptBook_told_papers.nd
 refine ⟨_, (pss_one (ps_ret (pe_lc [] rfl (LcOk.plain (by decide +kernel) (by decide +kernel) rfl (by decide +kernel) rfl) (pi_list (pe_fld (pv 0) rfl)) (fun C s2 H2 fp xe => (pe_call G_paper_copy (hr.mono (by decide)) rfl m_paper_copy k_paper_copy b_paper_copy Paired.nil pass0 (pa_cons (pv 0) pa_nil)))))), ?_⟩
 obtain ⟨dx, fs, hp, hbk, hke, hpa, hin, hno⟩ := R.ob
 have hline : 600 ≤ sizeLine := by decide
 refine ⟨_, rfl, p, C_KeptBook, dx, fs, _, rfl, hp, cl_KeptBook, n_papers, hpa, _, rfl, ⟨_, SqL.of hpl⟩, ?_⟩
 have zl := rfP_len Z
 refine lc_list (xs := rfP Z) (fun j ys H2 => ∃ Y : List Pp, ys = rfP Y ∧ Y.length = j ∧ PaG H2 (G.take j) Y ∧ (∀ y ∈ Y, H y.2.1 = none) ∧ Same H H2) ⟨[], rfl, rfl, PaG.nil _, (fun y hy => nomatch hy), fun _ _ h => h⟩ (by omega) ?_ ?_ ?_
 · rintro j ys H2 hj ⟨Y, rfl, hY, _, _, e⟩
   exact ⟨SqL.of (e _ _ hpl), by rw [rfP_len]; exact hY⟩
 · rintro j x ys H2 hx ⟨Y, rfl, hY, hYp, hYf, e⟩
   obtain ⟨z, hz, rfl⟩ := rfP_at hx
   obtain ⟨g, hg⟩ : ∃ g, G[j]? = some g := ⟨_, List.getElem?_eq_getElem (by have := (List.getElem?_eq_some_iff.mp hz).1; have := hZ.1; omega)⟩
   obtain ⟨pz, gz⟩ := hZ.2 j g z hg hz
   refine ⟨_, rfl, g.1, g.2.1, g.2.2.1, z, rfl, pz.same e, fun y H3 e3 hy1 hy2 hy hgs => ?_⟩
   refine ⟨Y ++ [y], by rw [rfP_app]; rfl, by rw [List.length_append, hY]; rfl, ?_, fun w hw => ?_, e.trans e3⟩
   · rw [take_nx hg]
     exact (hYp.same e3).app ⟨hy, hgs.trans gz⟩
   · rcases List.mem_append.mp hw with m | m
     · exact hYf w m
     · rw [List.mem_singleton.mp m]
       exact e.free hy2
 rintro ys H2 ⟨Y, rfl, hY, hYp, hYf, e⟩ r hr1
 rw [rfP_len, hZ.1, List.take_length] at hYp
 have f3 := same_upd (o := .lst (rfP Y)) hr1
 exact q r Y _ (e.trans f3) (e.free hr1) upd_same (hYp.same f3) hYf
abbrev s_KeptBook_standing : Stmt := inClass (top 16) 6
theorem sc_KeptBook_standing : FnScope ["self"] ["self"] (defScope s_KeptBook_standing) := ⟨rfl, rfl, rfl, by decide +kernel, rfl, by decide +kernel, by decide +kernel⟩
theorem ok_KeptBook_standing {C_KeptBook : Addr} (D : DefM K C_KeptBook "standing" "KeptBook.standing" s_KeptBook_standing .none) (c_paper_copy : Cal P w K mg base CX0 true 1 "paper_copy" ["paper"] [] spCopy) (cl_KeptBook : Cls K C_KeptBook) (n_book : NoAttr K C_KeptBook "book") (n_kept : NoAttr K C_KeptBook "kept") (n_papers : NoAttr K C_KeptBook "papers") (n_in_force : NoAttr K C_KeptBook "in_force") : CalM P w K mg base CX0 true 2 C_KeptBook "standing" ["self"] [] (spStandG C_KeptBook) := by
 obtain ⟨f, fd, F, hm⟩ := D
 obtain ⟨f_paper_copy, fd_paper_copy, d_paper_copy, G_paper_copy, m_paper_copy, k_paper_copy, b_paper_copy, v_paper_copy, b_paper_copy1⟩ := c_paper_copy
 refine ⟨f, fd, _, F.ok sc_KeptBook_standing (fun vs H Q E h => ?_) (fun cdv A outer s H vs Q E hr h => ?_), hm, (F.binds fun _ _ _ _ _ _ us hl => match us, hl with | [_], _ => rfl), .nil, F.binds fun _ _ _ _ _ _ us hl => match us, hl with | [_], _ => rfl⟩
 · obtain ⟨p, kl, pl, fl, f, Z, G, rfl, R, hfl, hZ, hZl, q⟩ := h
   rfl
 obtain ⟨p, kl, pl, fl, f, Z, G, rfl, R, hfl, hZ, hZl, q⟩ := h
 have nd := sc_KeptBook_standing.nd
 refine ⟨_, (pss_one (ps_ret (pe_lc [] rfl (LcOk.plain (by decide +kernel) (by decide +kernel) rfl (by decide +kernel) rfl) (pi_list (pe_fld (pv 0) rfl)) (fun C s2 H2 fp xe => (pe_call G_paper_copy (hr.mono (by decide)) rfl m_paper_copy k_paper_copy b_paper_copy Paired.nil pass0 (pa_cons (pv 0) pa_nil)))))), ?_⟩
 obtain ⟨dx, fs, hp, hbk, hke, hpa, hin, hno⟩ := R.ob
 have hline : 600 ≤ sizeLine := by decide
 refine ⟨_, rfl, p, C_KeptBook, dx, fs, _, rfl, hp, cl_KeptBook, n_in_force, hin, _, rfl, ⟨_, SqL.of hfl⟩, ?_⟩
 have zl := rfP_len Z
 refine lc_list (xs := rfP Z) (fun j ys H2 => ∃ Y : List Pp, ys = rfP Y ∧ Y.length = j ∧ PaG H2 (G.take j) Y ∧ (∀ y ∈ Y, H y.2.1 = none) ∧ Same H H2) ⟨[], rfl, rfl, PaG.nil _, (fun y hy => nomatch hy), fun _ _ h => h⟩ (by omega) ?_ ?_ ?_
 · rintro j ys H2 hj ⟨Y, rfl, hY, _, _, e⟩
   exact ⟨SqL.of (e _ _ hfl), by rw [rfP_len]; exact hY⟩
 · rintro j x ys H2 hx ⟨Y, rfl, hY, hYp, hYf, e⟩
   obtain ⟨z, hz, rfl⟩ := rfP_at hx
   obtain ⟨g, hg⟩ : ∃ g, G[j]? = some g := ⟨_, List.getElem?_eq_getElem (by have := (List.getElem?_eq_some_iff.mp hz).1; have := hZ.1; omega)⟩
   obtain ⟨pz, gz⟩ := hZ.2 j g z hg hz
   refine ⟨_, rfl, g.1, g.2.1, g.2.2.1, z, rfl, pz.same e, fun y H3 e3 hy1 hy2 hy hgs => ?_⟩
   refine ⟨Y ++ [y], by rw [rfP_app]; rfl, by rw [List.length_append, hY]; rfl, ?_, fun w hw => ?_, e.trans e3⟩
   · rw [take_nx hg]
     exact (hYp.same e3).app ⟨hy, hgs.trans gz⟩
   · rcases List.mem_append.mp hw with m | m
     · exact hYf w m
     · rw [List.mem_singleton.mp m]
       exact e.free hy2
 rintro ys H2 ⟨Y, rfl, hY, hYp, hYf, e⟩ r hr1
 rw [rfP_len, hZ.1, List.take_length] at hYp
 have f3 := same_upd (o := .lst (rfP Y)) hr1
 exact q r Y _ (e.trans f3) (e.free hr1) upd_same (hYp.same f3) hYf
theorem op_catTC {X : Cx} {scope : Scope} {cl : List (Str × Addr)} {C : Addr} {s2 : Shared} {H2 : Hp} {fp : List Addr} {N' : List Str} {xe : Value → Shared → Prop} : OpR (X.inC scope cl C s2 H2 fp N' xe) (binaryOp .Add) (rCatT X.K) := op_catT (X := X.inC scope cl C s2 H2 fp N' xe)
theorem at2 {i : Int} (x y : Str) (h0 : 0 ≤ i) (h1 : i < 2) : ∃ s, s ∈ [x, y] ∧ atI [V.str x, V.str y] i = some (.str s) := by
 have : i = 0 ∨ i = 1 := by omega
 rcases this with rfl | rfl
 · exact ⟨_, by simp, rfl⟩
 · exact ⟨_, by simp, rfl⟩
theorem at5 {i : Int} (a b c d e : Str) (h0 : 0 ≤ i) (h1 : i < 5) : ∃ s, s ∈ [a, b, c, d, e] ∧ atI [V.str a, V.str b, V.str c, V.str d, V.str e] i = some (.str s) := by
 have : i = 0 ∨ i = 1 ∨ i = 2 ∨ i = 3 ∨ i = 4 := by omega
 rcases this with rfl | rfl | rfl | rfl | rfl
 · exact ⟨_, by simp, rfl⟩
 · exact ⟨_, by simp, rfl⟩
 · exact ⟨_, by simp, rfl⟩
 · exact ⟨_, by simp, rfl⟩
 · exact ⟨_, by simp, rfl⟩
theorem good2 (f a b c : Str) (t1 t2 : Addr) (am wo : Int) : Good f [(t1, f, (a, c), am, wo), (t2, f, (b, c), 0 - am, 0 - wo)] := by
 refine ⟨fun z hz => ?_, fun k => ?_, ?_, (by show 2 ≤ 4; decide)⟩
 · simp only [List.mem_cons, List.not_mem_nil, or_false] at hz
   rcases hz with rfl | rfl <;> rfl
 · show (if c = k then am else 0) + ((if c = k then 0 - am else 0) + 0) = 0
   split <;> omega
 · show wo + ((0 - wo) + 0) = 0
   omega
theorem good4 (f a b c r : Str) (t1 t2 t3 t4 : Addr) (am wo : Int) : Good f [(t1, f, (a, c), am, wo), (t2, f, (b, c), 0 - am, 0 - wo), (t3, f, (b, "one"), 0, 1), (t4, f, (r, "one"), 0, -1)] := by
 refine ⟨fun z hz => ?_, fun k => ?_, ?_, (by show 4 ≤ 4; decide)⟩
 · simp only [List.mem_cons, List.not_mem_nil, or_false] at hz
   rcases hz with rfl | rfl | rfl | rfl <;> rfl
 · show (if c = k then am else 0) + ((if c = k then 0 - am else 0) + ((if ("one" : Str) = k then 0 else 0) + ((if ("one" : Str) = k then 0 else 0) + 0))) = 0
   split <;> split <;> omega
 · show wo + ((0 - wo) + (1 + (-1 + 0))) = 0
   omega
theorem ak_mem {x y z a c : Str} (ha : a ∈ [x, y, z, ".due." ++ z, "*bridge", "*rounding"]) (hc : c ∈ [z, "one"]) : (a, c) ∈ AK x y z := by
 unfold AK
 refine List.mem_flatMap.mpr ⟨a, ha, ?_⟩
 simp only [List.mem_cons, List.not_mem_nil, or_false] at hc ⊢
 rcases hc with rfl | rfl
 · exact .inl rfl
 · exact .inr rfl
theorem ak5 {x y z a : Str} (h : a ∈ [x, y, z, ".due." ++ z, "*bridge"]) : a ∈ [x, y, z, ".due." ++ z, "*bridge", "*rounding"] := by
 simp only [List.mem_cons, List.not_mem_nil, or_false] at h ⊢
 rcases h with h | h | h | h | h
 · exact .inl h
 · exact .inr (.inl h)
 · exact .inr (.inr (.inl h))
 · exact .inr (.inr (.inr (.inl h)))
 · exact .inr (.inr (.inr (.inr (.inl h))))
theorem nodup_len {α : Type} [BEq α] [LawfulBEq α] : ∀ (l A : List α), l.Nodup → (∀ x ∈ l, x ∈ A) → l.length ≤ A.length
 | [], _, _, _ => Nat.zero_le _
 | a :: r, A, h, hs => by
   have h1 := List.nodup_cons.mp h
   have h2 := nodup_len r (A.erase a) h1.2 fun x hx => (List.mem_erase_of_ne (fun e => h1.1 (by rw [← e]; exact hx))).mpr (hs x (List.mem_cons_of_mem _ hx))
   have h3 := List.length_erase_of_mem (hs a List.mem_cons_self)
   have h4 := List.length_pos_of_mem (hs a List.mem_cons_self)
   rw [List.length_cons]
   omega
theorem kys_ak {x y z : Str} {P : List Pr} (h : ∀ p ∈ P, p.1 ∈ AK x y z) : (kys P).length ≤ 60 := by
 have h2 := nodup_len (kys P) (AK x y z) (N21.nodup_firsts _) fun k hk => by
   obtain ⟨p, hp, rfl⟩ := List.mem_map.mp (N21.mem_firsts.mp hk)
   exact h p hp
 have h3 : (AK x y z).length = 12 := rfl
 omega
theorem tot_app2 (c : Pl) : ∀ A B : List (Pl × Int), N21.tot c (A ++ B) = N21.tot c A + N21.tot c B
 | [], B => (Int.zero_add _).symm
 | z :: r, B => by
   show _ + N21.tot c (r ++ B) = _ + N21.tot c r + _
   rw [tot_app2 c r B]
   omega
theorem ta_app (P Q : List Pr) (k : Pl) : ta (P ++ Q) k = ta P k + ta Q k := by
 unfold ta pA
 rw [List.map_append, tot_app2]
theorem tw_app (P Q : List Pr) (k : Pl) : tw (P ++ Q) k = tw P k + tw Q k := by
 unfold tw pW
 rw [List.map_append, tot_app2]
theorem nz_in {P : List Pr} {k : Pl} (h : nz P k = true) : k ∈ kys P := by
 by_cases m : k ∈ kys P
 · exact m
 · unfold nz at h
   rw [(ta_not m).1, (ta_not m).2] at h
   exact absurd h (by decide)
theorem ks_nodup {ks : List Pl} {P : List Pr} (p : ks.Perm (kys P)) : ks.Nodup := p.nodup_iff.mpr (N21.nodup_firsts _)
theorem fig_ext {P Q gs hs : List Pr} (h1 : Fig P gs) (h2 : Fig Q hs) (ea : ∀ k, ta P k = ta Q k) (ew : ∀ k, tw P k = tw Q k) : gs = hs := by
 obtain ⟨ks, p1, w1, rfl⟩ := h1
 obtain ⟨ls, p2, w2, rfl⟩ := h2
 have en : nz P = nz Q := funext fun k => by
   unfold nz
   rw [ea, ew]
 have e : ks.filter (nz P) = ls.filter (nz Q) := by
   refine ltP_uniq ?_ (w1.filter _) (w2.filter _)
   refine (List.perm_ext_iff_of_nodup ((ks_nodup p1).filter _) ((ks_nodup p2).filter _)).mpr fun k => ?_
   rw [List.mem_filter, List.mem_filter, en]
   constructor
   · intro h
     exact ⟨p2.mem_iff.mpr (nz_in h.2), h.2⟩
   · intro h
     exact ⟨p1.mem_iff.mpr (nz_in (by rw [en]; exact h.2)), h.2⟩
 unfold fg
 rw [e]
 refine List.map_congr_left fun k _ => ?_
 rw [ea, ew]
theorem tot_fg (f : Pl → Int) (k : Pl) : ∀ l : List Pl, l.Nodup → N21.tot k (l.map fun k => (k, f k)) = if k ∈ l then f k else 0
 | [], _ => rfl
 | a :: r, h => by
   have h1 := List.nodup_cons.mp h
   rw [List.map_cons]
   show (if a = k then f a else 0) + N21.tot k (r.map fun k => (k, f k)) = _
   rw [tot_fg f k r h1.2]
   by_cases e : a = k
   · subst e
     rw [if_pos rfl, if_neg h1.1, if_pos List.mem_cons_self]
     omega
   · rw [if_neg e]
     by_cases m : k ∈ r
     · rw [if_pos m, if_pos (List.mem_cons_of_mem _ m)]
       omega
     · rw [if_neg m, if_neg (fun w => by rcases List.mem_cons.mp w with w | w; exact e w.symm; exact m w)]
       omega
theorem fig_sum {P gs : List Pr} (h : Fig P gs) (k : Pl) : ta gs k = ta P k ∧ tw gs k = tw P k := by
 obtain ⟨ks, p, w, rfl⟩ := h
 have nd := (ks_nodup p).filter (nz P)
 have c : (k ∈ ks.filter (nz P) → True) ∧ (k ∉ ks.filter (nz P) → ta P k = 0 ∧ tw P k = 0) := by
   refine ⟨fun _ => trivial, fun n => ?_⟩
   by_cases z : nz P k = true
   · exact absurd (List.mem_filter.mpr ⟨p.mem_iff.mpr (nz_in z), z⟩) n
   · unfold nz at z
     simp at z
     exact z
 constructor
 · unfold ta pA fg
   rw [List.map_map]
   show N21.tot k ((ks.filter (nz P)).map fun k => (k, ta P k)) = _
   rw [tot_fg _ _ _ nd]
   split
   · rfl
   · rename_i n
     exact (c.2 n).1.symm
 · unfold tw pW fg
   rw [List.map_map]
   show N21.tot k ((ks.filter (nz P)).map fun k => (k, tw P k)) = _
   rw [tot_fg _ _ _ nd]
   split
   · rfl
   · rename_i n
     exact (c.2 n).2.symm
theorem fig_cat {P1 P2 P g1 g2 g3 g : List Pr} (h1 : Fig P1 g1) (h2 : Fig P2 g2) (h : Fig (g1 ++ g2) g) (h3 : Fig P g3) (ea : ∀ k, ta P k = ta P1 k + ta P2 k) (ew : ∀ k, tw P k = tw P1 k + tw P2 k) : g = g3 := by
 refine fig_ext h h3 (fun k => ?_) (fun k => ?_)
 · rw [ta_app, (fig_sum h1 k).1, (fig_sum h2 k).1, ea]
 · rw [tw_app, (fig_sum h1 k).2, (fig_sum h2 k).2, ew]
theorem fig_mem {P g : List Pr} (h : Fig P g) : ∀ p ∈ g, p.1 ∈ P.map (·.1) := by
 obtain ⟨ks, p, w, rfl⟩ := h
 intro q hq
 unfold fg at hq
 obtain ⟨k, hk, rfl⟩ := List.mem_map.mp hq
 exact N21.mem_firsts.mp (p.mem_iff.mp ((List.mem_filter.mp hk).1))
def mon (D : Dl) (m : Int) : List Ln := D.flatMap fun d => if d.1 / 30 = m then d.2 else []
theorem mon_nx {D : Dl} {i : Nat} {d : Int × List Ln} {m : Int} (h : D[i]? = some d) : mon (D.take (i + 1)) m = mon (D.take i) m ++ (if d.1 / 30 = m then d.2 else []) := by
 unfold mon
 rw [take_nx h, List.flatMap_append]
 simp
theorem fm_len (g : Int × List Ln → Bool) {D : Dl} (h : ∀ d ∈ D, d.2.length ≤ 4) : (D.flatMap fun d => if g d = true then d.2 else []).length ≤ 4 * D.length := by
 induction D with
 | nil => exact Nat.le_refl _
 | cons d r ih =>
   have a := ih fun z hz => h z (List.mem_cons_of_mem _ hz)
   have b := h d List.mem_cons_self
   rw [List.flatMap_cons, List.length_append, List.length_cons]
   split
   · omega
   · show 0 + _ ≤ _
     omega
theorem mon_len {D : Dl} {m : Int} (h : ∀ d ∈ D, d.2.length ≤ 4) : (mon D m).length ≤ 4 * D.length := by
 have := fm_len (fun d => decide (d.1 / 30 = m)) h
 simpa [mon] using this
def pr5 (L : List Ln) : List Pr := L.map (·.2.2)
theorem pr5_app (A B : List Ln) : pr5 (A ++ B) = pr5 A ++ pr5 B := List.map_append ..
theorem up_mon (D : Dl) (m : Int) (k : Pl) : ta (pr5 (upto D m)) k = ta (pr5 (upto D (m - 1))) k + ta (pr5 (mon D m)) k ∧ tw (pr5 (upto D m)) k = tw (pr5 (upto D (m - 1))) k + tw (pr5 (mon D m)) k := by
 induction D with
 | nil => exact ⟨rfl, rfl⟩
 | cons d r ih =>
   have s1 : upto (d :: r) m = (if d.1 / 30 ≤ m then d.2 else []) ++ upto r m := List.flatMap_cons
   have s2 : upto (d :: r) (m - 1) = (if d.1 / 30 ≤ m - 1 then d.2 else []) ++ upto r (m - 1) := List.flatMap_cons
   have s3 : mon (d :: r) m = (if d.1 / 30 = m then d.2 else []) ++ mon r m := List.flatMap_cons
   rw [s1, s2, s3, pr5_app, pr5_app, pr5_app, ta_app, ta_app, ta_app, tw_app, tw_app, tw_app, ih.1, ih.2]
   have z1 : ta (pr5 []) k = 0 := rfl
   have z2 : tw (pr5 []) k = 0 := rfl
   by_cases h1 : d.1 / 30 = m
   · rw [if_pos (by omega), if_neg (by omega), if_pos h1, z1, z2]
     constructor <;> omega
   · by_cases h2 : d.1 / 30 ≤ m
     · rw [if_pos h2, if_pos (by omega), if_neg h1, z1, z2]
       constructor <;> omega
     · rw [if_neg h2, if_neg (by omega), if_neg h1, z1, z2]
       constructor <;> omega
theorem up_none (D : Dl) (h : ∀ d ∈ D, 0 ≤ d.1) : upto D (-1) = [] := by
 unfold upto
 rw [List.flatMap_eq_nil_iff]
 intro d hd
 have := h d hd
 rw [if_neg (by omega)]
def KE (C : Addr) (H : Hp) (p kl : Addr) : Prop := ∃ dx fs, H p = some (.ins C dx fs) ∧ fs.lookup ("kept" : Str) = some (.ref kl) ∧ fs.lookup ("entries" : Str) = none
def TeL (H : Hp) (T : List En) : Prop := ∀ e ∈ T, H e.1 = some (.tup [.int e.2.1, .int e.2.2.1, .ref e.2.2.2.1]) ∧ H e.2.2.2.1 = some (.lst (rf5 e.2.2.2.2)) ∧ e.2.2.2.2.length ≤ 4
theorem TeL.same {H H' : Hp} {E : List En} (h : TeL H E) (e : Same H H') : TeL H' E := fun z hz => ⟨e _ _ (h z hz).1, e _ _ (h z hz).2.1, (h z hz).2.2⟩
def spEnt (C : Addr) : Sp := fun vs H Q _ => ∃ (p kl : Addr) (E : List En), vs = [.ref p] ∧ KE C H p kl ∧ H kl = some (.lst (rfE E)) ∧ EnL H E ∧ E.length ≤ 20 ∧
 ∀ (r : Addr) (T : List En) H', Same H H' → H r = none → H' r = some (.lst (rfE T)) → TeL H' T → (∀ t ∈ T, H t.2.2.2.1 = none) → dl T = dl E → Q (.ref r) H'
theorem mem_mon {H : Hp} {E : List En} {m : Int} (h : EnL H E) : R5 H (mon (dl E) m) := fun z hz => by
 unfold mon at hz
 obtain ⟨d, hd, hz⟩ := List.mem_flatMap.mp hz
 obtain ⟨e, he, rfl⟩ := List.mem_map.mp hd
 split at hz
 · exact (h e he).2.2.1 z hz
 · cases hz
def spCar : Sp := fun vs H Q _ => ∃ (a b : Addr) (F1 F2 : List Rw4), vs = [.ref a, .ref b] ∧ H a = some (.lst (rf4 F1)) ∧ R4 H F1 ∧ H b = some (.lst (rf4 F2)) ∧ R4 H F2 ∧ F1.length ≤ 200 ∧ F2.length ≤ 200 ∧ (kys (F1.map (·.2) ++ F2.map (·.2))).length ≤ 60 ∧
 ∀ (r : Addr) (F : List Rw4) H', Same H H' → H r = none → H' r = some (.lst (rf4 F)) → R4 H' F → Fig (F1.map (·.2) ++ F2.map (·.2)) (F.map (·.2)) → Q (.ref r) H'
abbrev Ro := Addr × Int × Addr × List Ln
def rfO (E : List Ro) : List V := E.map fun z => .ref z.1
def RoL (H : Hp) (E : List Ro) : Prop := ∀ e ∈ E, H e.1 = some (.tup [.int e.2.1, .ref e.2.2.1]) ∧ H e.2.2.1 = some (.lst (rf5 e.2.2.2)) ∧ R5 H e.2.2.2 ∧ e.2.2.2.length ≤ 4
theorem RoL.same {H H' : Hp} {E : List Ro} (h : RoL H E) (e : Same H H') : RoL H' E := fun z hz => ⟨e _ _ (h z hz).1, e _ _ (h z hz).2.1, (h z hz).2.2.1.same e, (h z hz).2.2.2⟩
def dr (E : List Ro) : Dl := E.map fun e => (e.2.1, e.2.2.2)
theorem rfO_len (L : List Ro) : (rfO L).length = L.length := List.length_map ..
theorem rfO_at {L : List Ro} {i : Nat} {x : V} (h : (rfO L)[i]? = some x) : ∃ z, L[i]? = some z ∧ x = .ref z.1 := ref_at h
theorem rfO_app (A B : List Ro) : rfO (A ++ B) = rfO A ++ rfO B := List.map_append ..
theorem rfE_app (A B : List En) : rfE (A ++ B) = rfE A ++ rfE B := List.map_append ..
theorem KB.ke {C : Addr} {H : Hp} {p kl pl fl : Addr} {f : Str} (h : KB C H p kl pl fl f) : KE C H p kl := by
 obtain ⟨dx, fs, hp, hbk, hke, hpa, hin, hno⟩ := h.ob
 exact ⟨dx, fs, hp, hke, hno _ (by decide +kernel)⟩
def spMov (C : Addr) : Sp := fun vs H Q _ => ∃ (p kl : Addr) (m : Int) (E : List En), vs = [.ref p, .int m] ∧ KE C H p kl ∧ H kl = some (.lst (rfE E)) ∧ EnL H E ∧ E.length ≤ 20 ∧ (kys (pr5 (mon (dl E) m))).length ≤ 60 ∧
 ∀ (r : Addr) (F : List Rw4) H', Same H H' → H r = none → H' r = some (.lst (rf4 F)) → R4 H' F → Fig (pr5 (mon (dl E) m)) (F.map (·.2)) → Q (.ref r) H'
def spHolds (C : Addr) : Sp := fun vs H Q _ => ∃ (p kl pl fl tp gl : Addr) (f : Str) (m t : Int) (E : List En) (G : List Rw4), vs = [.ref p, .ref tp] ∧ KB C H p kl pl fl f ∧ H kl = some (.lst (rfE E)) ∧ EnL H E ∧ E.length ≤ 20 ∧ (kys ((upto (dl E) m).map (·.2.2))).length ≤ 60 ∧ H tp = some (.tup [.str f, .int m, .int t, .ref gl]) ∧ H gl = some (.lst (rf4 G)) ∧ R4 H G ∧ Fig ((upto (dl E) m).map (·.2.2)) (G.map (·.2)) ∧
 ∀ H', Same H H' → Q (.bl true) H'
def spUL : Sp := fun vs H Q _ => ∃ (rl : Addr) (m : Int) (E : List Ro), vs = [.ref rl, .int m] ∧ H rl = some (.lst (rfO E)) ∧ RoL H E ∧ E.length ≤ 20 ∧ (kys ((upto (dr E) m).map (·.2.2))).length ≤ 60 ∧
 ∀ (r : Addr) (F : List Rw4) H', Same H H' → H r = none → H' r = some (.lst (rf4 F)) → R4 H' F → Fig ((upto (dr E) m).map (·.2.2)) (F.map (·.2)) → Q (.ref r) H'
def spPaper : Sp := fun vs H Q _ => ∃ (f : Str) (k t : Nat) (z y : Pp), vs = [.ref z.1, .ref y.1] ∧ Pap H f k t z ∧ Pap H f k t y ∧ gs z = gs y ∧ Q (.bl true) H
def spPapers : Sp := fun vs H Q _ => ∃ (a b : Addr) (Z Y : List Pp) (G : List Pg), vs = [.ref a, .ref b] ∧ H a = some (.lst (rfP Z)) ∧ PaG H G Z ∧ H b = some (.lst (rfP Y)) ∧ PaG H G Y ∧ Z.length ≤ 60 ∧ Q (.bl true) H
def spCps : Sp := fun vs H Q _ => ∃ (a : Addr) (Z : List Pp) (G : List Pg), vs = [.ref a] ∧ H a = some (.lst (rfP Z)) ∧ PaG H G Z ∧ Z.length ≤ 60 ∧
 ∀ (r : Addr) (Y : List Pp) H', Same H H' → H r = none → H' r = some (.lst (rfP Y)) → PaG H' G Y → (∀ y ∈ Y, H y.2.1 = none) → Q (.ref r) H'
theorem sc__law_lines : FnScope ["_law_firm", "_law_names_here", "_law_what", "_law_cell_here", "_law_accounts", "_law_coin", "_law_amount_here", "_law_worth", "_law_one", "_law_two", "_law_lines_here"] ["_law_firm", "_law_names_here", "_law_what", "_law_cell_here"] (defScope s__law_lines) := ⟨rfl, rfl, rfl, by decide +kernel, rfl, by decide +kernel, by decide +kernel⟩
theorem ok__law_lines (D : Def K mg "_law_lines" s__law_lines .none) (c__law_amount : Cal P w K mg base CX0 true 1 "_law_amount" ["_law_cell_here"] [] spAm) : Cal P w K mg base CX0 true 2 "_law_lines" ["_law_firm", "_law_names_here", "_law_what", "_law_cell_here"] [] spLns := by
 obtain ⟨f, fd, F, hm⟩ := D
 obtain ⟨f__law_amount, fd__law_amount, d__law_amount, G__law_amount, m__law_amount, k__law_amount, b__law_amount, v__law_amount, b__law_amount1⟩ := c__law_amount
 refine ⟨f, fd, _, F.ok sc__law_lines (fun vs H Q E h => ?_) (fun cdv A outer s H vs Q E hr h => ?_), hm, F.kp, (F.binds fun _ _ _ _ _ _ us hl => match us, hl with | [_, _, _, _], _ => rfl), .nil, F.binds fun _ _ _ _ _ _ us hl => match us, hl with | [_, _, _, _], _ => rfl⟩
 · obtain ⟨nl, fm, x, y, z, w, c, rfl, hn, lx, ly, lz, q⟩ := h
   rfl
 obtain ⟨nl, fm, x, y, z, w, c, rfl, hn, lx, ly, lz, q⟩ := h
 have nd := sc__law_lines.nd
 refine ⟨_, (pss_cons (ps_set (i := 4) nd rfl (Or.inl rfl) (pe_op op_cat (pv 1) (pe_lst (pa_cons (pe_op op_add_str pe_str (pe_ix ix_seq (pv 1) pe_int (fun _ _ => rfl))) (pa_cons pe_str pa_nil)))))
   (pss_cons (ps_set (i := 5) nd rfl (Or.inl rfl) (pe_ix ix_seq (pe_lst (pa_cons (pe_ix ix_seq (pv 1) pe_int (fun _ _ => rfl)) (pa_cons pe_str pa_nil))) (pe_op op_mod (pv 2) pe_int) (fun _ _ => rfl)))
   (pss_cons (ps_set (i := 6) nd rfl (Or.inl rfl) (pe_call G__law_amount (hr.mono (by decide)) rfl m__law_amount k__law_amount b__law_amount Paired.nil pass0 (pa_cons (pv 3) pa_nil)))
   (pss_cons (ps_set (i := 7) nd rfl (Or.inl rfl) (pe_op op_add (pe_op op_mulB (pv 6) (pe_op op_add pe_int (pe_op op_mod (pe_op op_fdiv (pv 2) pe_int) pe_int))) (pe_op op_mod (pe_op op_fdiv (pv 2) pe_int) pe_int)))
   (pss_cons (ps_set (i := 8) nd rfl (Or.inl rfl) (pe_ix ix_seq (pv 4) (pe_op op_mod (pe_op op_fdiv (pv 2) pe_int) pe_int) (fun _ _ => rfl)))
   (pss_cons (ps_set (i := 9) nd rfl (Or.inl rfl) (pe_ix ix_seq (pv 4) (pe_op op_mod (pe_op op_fdiv (pv 2) pe_int) pe_int) (fun _ _ => rfl)))
   (pss_cons (ps_set (i := 10) nd rfl (Or.inl rfl) (pe_lst (pa_cons (pe_tup (pa_cons (pv 0) (pa_cons (pv 8) (pa_cons (pv 5) (pa_cons (pv 6) (pa_cons (pv 7) pa_nil)))))) (pa_cons (pe_tup (pa_cons (pv 0) (pa_cons (pv 9) (pa_cons (pv 5) (pa_cons (pe_op op_sub pe_int (pv 6)) (pa_cons (pe_op op_sub pe_int (pv 7)) pa_nil)))))) pa_nil))))
   (pss_cons (ps_if (pt_cmpR op_eq (pe_op op_mod (pe_op op_fdiv (pv 2) pe_int) pe_int) pe_int (nomark _)) (pss_one (ps_set (i := 10) nd rfl (Or.inl rfl) (pe_op op_cat (pv 10) (pe_lst (pa_cons (pe_tup (pa_cons (pv 0) (pa_cons (pv 9) (pa_cons pe_str (pa_cons pe_int (pa_cons pe_int pa_nil)))))) (pa_cons (pe_tup (pa_cons (pv 0) (pa_cons pe_str (pa_cons pe_str (pa_cons pe_int (pa_cons (pe_un un_neg pe_int) pa_nil)))))) pa_nil)))))) pss_nil)
   (pss_one (ps_ret (pv 10))))))))))), ?_⟩
 have hline : 600 ≤ sizeLine := by decide
 have S1 := SqL.of (K := K) hn
 refine ⟨_, rfl, _, rfl, .inl ⟨nl, _, 2, _, rfl, rfl, S1, rfl, ".due.", z, rfl, rfl, (by show 5 + z.length ≤ sizeLine; omega), (by show 2 ≤ sizeLine; decide), fun b hb => ?_⟩⟩
 have e1 := same_upd (o := .lst [.str (".due." ++ z), .str "*bridge"]) hb
 refine ⟨nl, b, _, _, rfl, rfl, e1 _ _ hn, upd_same, (by show 3 + 2 ≤ sizeLine; decide), fun al hal => ?_⟩
 have e2 := same_upd (o := .lst [.str x, .str y, .str z, .str (".due." ++ z), .str "*bridge"]) hal
 have hA : upd (upd H b (.lst [.str (".due." ++ z), .str "*bridge"])) al (.lst ([.str x, .str y, .str z] ++ [.str (".due." ++ z), .str "*bridge"])) al = some (.lst [.str x, .str y, .str z, .str (".due." ++ z), .str "*bridge"]) := upd_same
 have e12 : Same H (upd (upd H b (.lst [.str (".due." ++ z), .str "*bridge"])) al (.lst ([.str x, .str y, .str z] ++ [.str (".due." ++ z), .str "*bridge"]))) := e1.trans e2
 generalize upd (upd H b (.lst [.str (".due." ++ z), .str "*bridge"])) al (.lst ([.str x, .str y, .str z] ++ [.str (".due." ++ z), .str "*bridge"])) = H2 at hA e12 ⊢
 obtain ⟨co, mco, hco⟩ := at2 (i := w % 2) z "one" (by omega) (by omega)
 refine ⟨_, rfl, .inl ⟨nl, _, 2, _, rfl, rfl, SqL.of (e12 _ _ hn), rfl, (by show 2 ≤ sizeLine; decide), fun cl hcl => ⟨_, rfl, _, _, rfl, rfl, (by show (0 : Int) < 2; decide), .inl ⟨cl, _, _, _, rfl, rfl, SqL.of upd_same, hco, ?_⟩⟩⟩⟩
 have e3 := same_upd (o := .lst [.str z, .str "one"]) hcl
 have hA3 := e3 _ _ hA
 have e13 := e12.trans e3
 generalize upd H2 cl (.lst [.str z, .str "one"]) = H3 at hA3 e13 ⊢
 refine ⟨_, rfl, c, rfl, fun am => ?_⟩
 refine ⟨_, rfl, _, rfl, _, _, rfl, rfl, ⟨by decide, by decide⟩, _, _, rfl, rfl, (by show (0 : Int) < 3; decide), _, _, rfl, rfl, _, _, rfl, rfl, .of_right (intBits_le_64 (by omega) (by omega)), _, rfl, _, _, rfl, rfl, ⟨by decide, by decide⟩, _, _, rfl, rfl, (by show (0 : Int) < 3; decide), _, _, rfl, rfl, ?_⟩
 obtain ⟨s1, ms1, hs1⟩ := at5 (i := w / 18 % 5) x y z (".due." ++ z) "*bridge" (by omega) (by omega)
 obtain ⟨s2, ms2, hs2⟩ := at5 (i := w / 90 % 5) x y z (".due." ++ z) "*bridge" (by omega) (by omega)
 refine ⟨_, rfl, _, rfl, _, _, rfl, rfl, ⟨by decide, by decide⟩, _, _, rfl, rfl, (by show (0 : Int) < 5; decide), .inl ⟨al, _, _, _, rfl, rfl, SqL.of hA3, hs1, ?_⟩⟩
 refine ⟨_, rfl, _, rfl, _, _, rfl, rfl, ⟨by decide, by decide⟩, _, _, rfl, rfl, (by show (0 : Int) < 5; decide), .inl ⟨al, _, _, _, rfl, rfl, SqL.of hA3, hs2, ?_⟩⟩
 obtain ⟨wo, hwo⟩ : ∃ wo : Int, wo = am * (1 + w / 2 % 3) + w / 6 % 3 := ⟨_, rfl⟩
 dsimp only
 rw [← hwo]
 refine ⟨_, rfl, _, rfl, _, rfl, _, rfl, _, rfl, (by show 5 ≤ sizeLine; decide), fun t1 h1 => ⟨_, rfl, _, rfl, _, rfl, _, rfl, _, _, rfl, rfl, _, rfl, _, _, rfl, rfl, (by show 5 ≤ sizeLine; decide), fun t2 h2 => ⟨(by show 2 ≤ sizeLine; decide), fun l hl => ?_⟩⟩⟩
 have g1 := same_upd (o := .tup [.str fm, .str s1, .str co, .int am, .int wo]) h1
 have g2 := same_upd (o := .tup [.str fm, .str s2, .str co, .int (0 - am), .int (0 - wo)]) h2
 have g3 := same_upd (o := .lst [.ref t1, .ref t2]) hl
 have r1 := (g2.trans g3) _ _ (upd_same (H := H3) (a := t1) (o := .tup [.str fm, .str s1, .str co, .int am, .int wo]))
 have r2 := g3 _ _ (upd_same (a := t2) (o := .tup [.str fm, .str s2, .str co, .int (0 - am), .int (0 - wo)]))
 have r3 := upd_same (H := upd (upd H3 t1 (.tup [.str fm, .str s1, .str co, .int am, .int wo])) t2 (.tup [.str fm, .str s2, .str co, .int (0 - am), .int (0 - wo)])) (a := l) (o := .lst [.ref t1, .ref t2])
 have e16 := e13.trans ((g1.trans g2).trans g3)
 have hl0 : H l = none := (e13.trans (g1.trans g2)).free hl
 generalize upd (upd (upd H3 t1 (.tup [.str fm, .str s1, .str co, .int am, .int wo])) t2 (.tup [.str fm, .str s2, .str co, .int (0 - am), .int (0 - wo)])) l (.lst [.ref t1, .ref t2]) = H6 at r1 r2 r3 e16 ⊢
 refine ⟨_, rfl, _, _, rfl, rfl, ⟨by decide, by decide⟩, _, _, rfl, rfl, (by show (0 : Int) < 2; decide), rfl, _, rfl, ?_⟩
 refine dec2 (fun h => ?_) (fun h => ?_)
 · refine ⟨_, rfl, _, rfl, _, rfl, (by show 5 ≤ sizeLine; decide), fun t3 h3 => ⟨_, rfl, _, rfl, (by show 5 ≤ sizeLine; decide), fun t4 h4 => ⟨(by show 2 ≤ sizeLine; decide), fun l2 hl2 => ?_⟩⟩⟩
   have k1 := same_upd (o := .tup [.str fm, .str s2, .str "one", .int 0, .int 1]) h3
   have k2 := same_upd (o := .tup [.str fm, .str "*rounding", .str "one", .int 0, .int (-1)]) h4
   have k3 := same_upd (o := .lst [.ref t3, .ref t4]) hl2
   have k13 := (k1.trans k2).trans k3
   refine ⟨l, l2, _, _, rfl, rfl, k13 _ _ r3, upd_same, (by show 2 + 2 ≤ sizeLine; decide), fun l3 hl3 => ?_⟩
   have k4 := same_upd (o := .lst [.ref t1, .ref t2, .ref t3, .ref t4]) hl3
   refine ⟨_, rfl, q l3 [(t1, fm, (s1, co), am, wo), (t2, fm, (s2, co), 0 - am, 0 - wo), (t3, fm, (s2, "one"), 0, 1), (t4, fm, ("*rounding", "one"), 0, -1)] _ ((e16.trans k13).trans k4) ((e16.trans k13).free hl3) upd_same (fun v hv => ?_) (good4 ..) (fun v hv => ?_)⟩
   · simp only [List.mem_cons, List.not_mem_nil, or_false] at hv
     rcases hv with rfl | rfl | rfl | rfl
     · exact k4 _ _ (k13 _ _ r1)
     · exact k4 _ _ (k13 _ _ r2)
     · exact k4 _ _ ((k2.trans k3) _ _ upd_same)
     · exact k4 _ _ (k3 _ _ upd_same)
   · simp only [List.mem_cons, List.not_mem_nil, or_false] at hv
     rcases hv with rfl | rfl | rfl | rfl
     · exact ak_mem (ak5 ms1) mco
     · exact ak_mem (ak5 ms2) mco
     · exact ak_mem (ak5 ms2) (by simp)
     · exact ak_mem (by simp) (by simp)
 · refine ⟨_, rfl, q l [(t1, fm, (s1, co), am, wo), (t2, fm, (s2, co), 0 - am, 0 - wo)] _ e16 hl0 r3 (fun v hv => ?_) (good2 ..) (fun v hv => ?_)⟩
   · simp only [List.mem_cons, List.not_mem_nil, or_false] at hv
     rcases hv with rfl | rfl
     · exact r1
     · exact r2
   · simp only [List.mem_cons, List.not_mem_nil, or_false] at hv
     rcases hv with rfl | rfl
     · exact ak_mem (ak5 ms1) mco
     · exact ak_mem (ak5 ms2) mco
theorem sc__law_figures : FnScope ["_law_lines_here", "_law_sums", "_law_firm", "_law_account", "_law_coin", "_law_amount_here", "_law_worth", "_law_old"] ["_law_lines_here"] (defScope s__law_figures) := ⟨rfl, rfl, rfl, by decide +kernel, rfl, by decide +kernel, by decide +kernel⟩
theorem ok__law_figures (D : Def K mg "_law_figures" s__law_figures .none) (z_sorted : mg "sorted" = none) : Cal P w K mg base CX0 true 1 "_law_figures" ["_law_lines_here"] [] spFigs := by
 obtain ⟨f, fd, F, hm⟩ := D
 refine ⟨f, fd, _, F.ok sc__law_figures (fun vs H Q E h => ?_) (fun cdv A outer s H vs Q E hr h => ?_), hm, F.kp, (F.binds fun _ _ _ _ _ _ us hl => match us, hl with | [_], _ => rfl), .nil, F.binds fun _ _ _ _ _ _ us hl => match us, hl with | [_], _ => rfl⟩
 · obtain ⟨l, L, rfl, hl, hL, hlen, hky, q⟩ := h
   rfl
 obtain ⟨l, L, rfl, hl, hL, hlen, hky, q⟩ := h
 have nd := sc__law_figures.nd
 refine ⟨_, (pss_cons (ps_set (i := 1) nd rfl (Or.inr rfl) pe_dnewT)
   (pss_cons (ps_for PassesOwn.never rfl (pi_list (pv 0)) (pg_tup rfl (pgs_cons (pg_name (i := 2) nd rfl (Or.inl rfl)) (pgs_cons (pg_name (i := 3) nd rfl (Or.inl rfl)) (pgs_cons (pg_name (i := 4) nd rfl (Or.inl rfl)) (pgs_cons (pg_name (i := 5) nd rfl (Or.inl rfl)) (pgs_cons (pg_name (i := 6) nd rfl (Or.inl rfl)) pgs_nil)))))) (pss_cons (ps_set (i := 7) nd rfl (Or.inl rfl) (pe_dget2 (hu_of hr) (pv 1) (pe_tup (pa_cons (pv 3) (pa_cons (pv 4) pa_nil))) (pe_tup (pa_cons pe_int (pa_cons pe_int pa_nil))) ⟨rfl, rfl, rfl, rfl⟩))
   (pss_one (ps_dput (hu_of hr) (pv 1) (pe_tup (pa_cons (pv 3) (pa_cons (pv 4) pa_nil))) (pe_tup (pa_cons (pe_op op_add (pe_ix ix_seq (pv 7) pe_int (fun _ _ => rfl)) (pv 5)) (pa_cons (pe_op op_add (pe_ix ix_seq (pv 7) pe_int (fun _ _ => rfl)) (pv 6)) pa_nil))) rfl))))
   (pss_one (ps_ret (pe_lcIf [1] rfl (LcOk.free ["_law_sums"] rfl rfl (List.forall_mem_cons.mpr ⟨rfl, (fun _ h => nomatch h)⟩) (by decide +kernel) rfl (by decide +kernel) rfl (by decide +kernel) (show (["_law_place", "_law_sums"] : List Str).Nodup from by decide +kernel) (List.forall_mem_cons.mpr ⟨⟨_, rfl, rfl, rfl, by decide +kernel⟩, (fun _ h => nomatch h)⟩)) (pi_list (pe_callB (call_sortedT rfl) rfl z_sorted bt_sorted (pa_cons (pv 1) pa_nil))) (fun C s2 H2 fp xe => (pt_cmpR (op_neIC hr) (pe_dget (hu_of hr) (pv 1) (pv 0) (fun _ _ => rfl)) (pe_tup (pa_cons pe_int (pa_cons pe_int pa_nil))) (nomark _))) (fun C s2 H2 fp xe => (pe_op op_catTC (pv 0) (pe_dget (hu_of hr) (pv 1) (pv 0) (fun _ _ => rfl))))))))), ?_⟩
 have hline : 600 ≤ sizeLine := by decide
 refine fun d hd => ?_
 have e1 := same_upd (o := .dT []) hd
 refine ⟨_, rfl, l, rfl, ⟨_, SqL.of (e1 _ _ hl)⟩, ?_⟩
 refine for_list (xs := rf5 L) (fun i σ H' => ∃ (o2 o3 o4 o5 o6 o7 : Option V) (A : Pl → Addr), σ = [some (.ref l), some (.ref d), o2, o3, o4, o5, o6, o7] ∧ Same H H' ∧ Sums H' d ((L.take i).map (·.2.2)) A) ⟨_, _, _, _, _, _, fun _ => d, rfl, e1, upd_same, fun k hk => nomatch hk⟩ ?_ ?_ ?_
 · rintro i σ H1 hi ⟨o2, o3, o4, o5, o6, o7, A, rfl, e, _⟩
   exact SqL.of (e _ _ hl)
 · rintro i x σ H1 hx ⟨o2, o3, o4, o5, o6, o7, A, rfl, e, S⟩
   obtain ⟨z, hz, rfl⟩ := rf5_at hx
   have hzz := e _ _ (hL z (List.mem_of_getElem? hz))
   have hkl := kvT_len A ((L.take i).map (·.2.2))
   rw [List.length_map, List.length_take] at hkl
   have hlz : i < L.length := (List.getElem?_eq_some_iff.mp hz).1
   refine ⟨z.1, _, rfl, SqT.of hzz, rfl, _, _, rfl, _, _, rfl, _, _, rfl, _, _, rfl, _, _, rfl, rfl, ?_⟩
   refine ⟨_, rfl, d, rfl, .inr ⟨_, .inl S.1⟩, _, rfl, _, rfl, (by show 2 ≤ sizeLine; decide), fun kp hkp => ⟨(by show 2 ≤ sizeLine; decide), fun zp hzp => ?_⟩⟩
   have f1 := same_upd (o := .tup [.str z.2.2.1.1, .str z.2.2.1.2]) hkp
   have f2 := same_upd (o := .tup [.int 0, .int 0]) hzp
   have S2 := S.same (f1.trans f2)
   obtain ⟨s, hs, hst⟩ := S2.get z.2.2.1 (z := zp) upd_same
   refine ⟨_, DGet.t (k := kk z.2.2.1) S2.1 (f2 _ _ upd_same), ?_⟩
   rw [hs]
   have hT := SqT.of (K := K) hst
   refine ⟨_, rfl, .inr (.inl ⟨s, _, 0, _, rfl, rfl, hT, rfl, _, rfl, _, _, rfl, rfl, _, rfl, .inr (.inl ⟨s, _, 1, _, rfl, rfl, hT, rfl, _, rfl, _, _, rfl, rfl, (by show 2 ≤ sizeLine; decide), fun np hnp => ?_⟩)⟩)⟩
   have f3 := same_upd (o := .tup [.int (ta ((L.take i).map (·.2.2)) z.2.2.1 + z.2.2.2.1), .int (tw ((L.take i).map (·.2.2)) z.2.2.1 + z.2.2.2.2)]) hnp
   refine ⟨_, rfl, _, rfl, _, rfl, (by show 2 ≤ sizeLine; decide), fun kp2 hkp2 => ?_⟩
   have f4 := same_upd (o := .tup [.str z.2.2.1.1, .str z.2.2.1.2]) hkp2
   have S4 := S2.same (f3.trans f4)
   refine ⟨d, _, rfl, DPut.t (k := kk z.2.2.1) S4.1 upd_same (by omega), ?_⟩
   refine ⟨_, _, _, _, _, _, fun k => if k = z.2.2.1 then np else A k, rfl, same_set (e.trans ((f1.trans f2).trans (f3.trans f4))) hd, ?_⟩
   rw [take_nx hz, List.map_append]
   exact S4.put (p := z.2.2) (f4 _ _ upd_same)
 rintro σ H1 ⟨o2, o3, o4, o5, o6, o7, A, rfl, e, S⟩
 rw [rf5_len, List.take_length] at S
 have hkn := hky
 generalize hP : L.map (·.2.2) = P at S hkn q
 refine ⟨_, rfl, d, _, kys P, rfl, S.1, kvT_keys A P, by omega, fun sl T hsl perm pw ht => ⟨sl, rfl, ⟨_, SqL.of upd_same⟩, ?_⟩⟩
 have g2 := same_upd (o := .lst (T.map fun z => V.ref z.1)) hsl
 have hTl := perm.length_eq
 rw [List.length_map] at hTl
 have hTn : (T.map fun z => V.ref z.1).length = T.length := List.length_map ..
 refine lc_listIf (xs := T.map fun z => V.ref z.1) (fun i ys H' => ∃ Z : List Rw4, ys = rf4 Z ∧ Same (upd H1 sl (.lst (T.map fun z => V.ref z.1))) H' ∧ R4 H' Z ∧ Z.map (·.2) = fg P ((T.map (·.2)).take i)) ⟨[], rfl, (fun _ _ h => h), (fun z hz => nomatch hz), rfl⟩ (by omega) ?_ ?_ ?_
 · rintro i ys H2 hi ⟨Z, rfl, e2, _, hZg⟩
   refine ⟨SqL.of (e2 _ _ upd_same), ?_⟩
   have := congrArg List.length hZg
   rw [List.length_map] at this
   unfold fg at this
   rw [List.length_map] at this
   have b := List.length_filter_le (nz P) ((T.map (·.2)).take i)
   rw [List.length_take, List.length_map] at b
   rw [rf4_len]
   omega
 · rintro i x ys H2 hx ⟨Z, rfl, e2, hZ, hZg⟩
   obtain ⟨z, hz, rfl⟩ := ref_at hx
   have hzm := List.mem_of_getElem? hz
   have hzz := e2 _ _ (g2 _ _ (ht z hzm))
   have hkz : z.2 ∈ kys P := perm.mem_iff.mp (List.mem_map_of_mem hzm)
   have S1 := S.same (g2.trans e2)
   refine ⟨_, rfl, _, rfl, d, .ref (A z.2), rfl, kvT_val hkz ▸ DGet.t (k := kk z.2) S1.1 hzz, ?_⟩
   refine ⟨(by show 2 ≤ sizeLine; decide), fun zp hzp => ?_⟩
   have f2 := same_upd (o := .tup [.int 0, .int 0]) hzp
   have S2 := S1.same f2
   refine ⟨A z.2, zp, [ta P z.2, tw P z.2], [0, 0], rfl, rfl, SqT.of (S2.2 z.2 hkz), SqT.of upd_same, _, rfl, ?_⟩
   have nx := fg_nx (P := P) (ks := T.map (·.2)) (i := i) (k := z.2) (by rw [List.getElem?_map, hz]; rfl)
   refine ndec2 (fun h => ?_) (fun h => ?_)
   · have hnz : nz P z.2 = true := by
       unfold nz
       rw [decide_eq_false h]
       rfl
     rw [if_pos hnz] at nx
     refine ⟨_, rfl, _, rfl, _, rfl, d, .ref (A z.2), rfl, kvT_val hkz ▸ DGet.t (k := kk z.2) S2.1 (f2 _ _ hzz), z.1, A z.2, _, _, rfl, rfl, SqT.of (f2 _ _ hzz), SqT.of (S2.2 z.2 hkz), (by simp), (by show 4 ≤ sizeLine; decide), (fun h => by cases h), fun _ np hnp => ?_⟩
     have f3 := same_upd (o := .tup [.str z.2.1, .str z.2.2, .int (ta P z.2), .int (tw P z.2)]) hnp
     refine ⟨Z ++ [(np, z.2, ta P z.2, tw P z.2)], by rw [rf4_app]; rfl, e2.trans (f2.trans f3), fun y hy => ?_, ?_⟩
     · rcases List.mem_append.mp hy with w | w
       · exact hZ.same (f2.trans f3) y w
       · rw [List.mem_singleton.mp w]
         exact upd_same
     · rw [nx, List.map_append, hZg]
       rfl
   · have hnz : ¬ nz P z.2 = true := by
       unfold nz
       rw [decide_eq_true h]
       decide
     rw [if_neg hnz] at nx
     exact ⟨Z, rfl, e2.trans f2, hZ.same f2, hZg.trans nx.symm⟩
 rintro ys H2 ⟨Z, rfl, e2, hZ, hZg⟩ rl hrl
 rw [hTn, ← List.map_take, List.take_length] at hZg
 have f := same_upd (o := .lst (rf4 Z)) hrl
 exact q rl Z _ (((e.trans g2).trans e2).trans f) (((e.trans g2).trans e2).free hrl) upd_same (hZ.same f) ⟨_, perm, pw, hZg⟩
theorem sc__law_upto : FnScope ["_law_rows", "_law_month", "_law_lines_here", "_law_day", "_law_page"] ["_law_rows", "_law_month"] (defScope s__law_upto) := ⟨rfl, rfl, rfl, by decide +kernel, rfl, by decide +kernel, by decide +kernel⟩
theorem ok__law_upto (D : Def K mg "_law_upto" s__law_upto .none) (c__law_figures : Cal P w K mg base CX0 true 1 "_law_figures" ["_law_lines_here"] [] spFigs) : Cal P w K mg base CX0 true 2 "_law_upto" ["_law_rows", "_law_month"] [] spUL := by
 obtain ⟨f, fd, F, hm⟩ := D
 obtain ⟨f__law_figures, fd__law_figures, d__law_figures, G__law_figures, m__law_figures, k__law_figures, b__law_figures, v__law_figures, b__law_figures1⟩ := c__law_figures
 refine ⟨f, fd, _, F.ok sc__law_upto (fun vs H Q E h => ?_) (fun cdv A outer s H vs Q E hr h => ?_), hm, F.kp, (F.binds fun _ _ _ _ _ _ us hl => match us, hl with | [_, _], _ => rfl), .nil, F.binds fun _ _ _ _ _ _ us hl => match us, hl with | [_, _], _ => rfl⟩
 · obtain ⟨rl, m, E, rfl, hrl, hE, hEl, hky, q⟩ := h
   rfl
 obtain ⟨rl, m, E, rfl, hrl, hE, hEl, hky, q⟩ := h
 have nd := sc__law_upto.nd
 refine ⟨_, (pss_cons (ps_set (i := 2) nd rfl (Or.inl rfl) (pe_lst pa_nil))
   (pss_cons (ps_for PassesOwn.never rfl (pi_list (pv 0)) (pg_tup rfl (pgs_cons (pg_name (i := 3) nd rfl (Or.inl rfl)) (pgs_cons (pg_name (i := 4) nd rfl (Or.inl rfl)) pgs_nil))) (pss_one (ps_if (pt_cmpR op_le (pe_op op_fdiv (pv 3) pe_int) (pv 1) (nomark _)) (pss_one (ps_set (i := 2) nd rfl (Or.inl rfl) (pe_op op_cat (pv 2) (pv 4)))) pss_nil)))
   (pss_one (ps_ret (pe_call G__law_figures (hr.mono (by decide)) rfl m__law_figures k__law_figures b__law_figures Paired.nil pass0 (pa_cons (pv 2) pa_nil)))))), ?_⟩
 have hline : 600 ≤ sizeLine := by decide
 have hD : ∀ i, (upto ((dr E).take i) m).length ≤ 80 := fun i => by
   have h := upto_len (D := (dr E).take i) (m := m) (fun d hd => by
     obtain ⟨e, he, rfl⟩ := List.mem_map.mp (List.mem_of_mem_take hd)
     exact (hE e he).2.2.2)
   rw [List.length_take] at h
   have : (dr E).length = E.length := List.length_map ..
   omega
 refine ⟨(by show 0 ≤ sizeLine; decide), fun l hl => ?_⟩
 have e1 := same_upd (o := .lst []) hl
 refine ⟨_, rfl, rl, rfl, ⟨_, SqL.of (e1 _ _ hrl)⟩, ?_⟩
 refine for_list (xs := rfO E) (fun i σ H' => ∃ (ll : Addr) (o3 o4 : Option V), σ = [some (.ref rl), some (.int m), some (.ref ll), o3, o4] ∧ Same H H' ∧ H' ll = some (.lst (rf5 (upto ((dr E).take i) m)))) ⟨l, _, _, rfl, e1, upd_same⟩ ?_ ?_ ?_
 · rintro i σ H1 hi ⟨ll, o3, o4, rfl, e, _⟩
   exact SqL.of (e _ _ hrl)
 · rintro i x σ H1 hx ⟨ll, o3, o4, rfl, e, hll⟩
   obtain ⟨z, hz, rfl⟩ := rfO_at hx
   have hzm := List.mem_of_getElem? hz
   have hzE := (hE.same e) z hzm
   have nx := upto_nx (m := m) (show (dr E)[i]? = some (z.2.1, z.2.2.2) by unfold dr; rw [List.getElem?_map, hz]; rfl)
   refine ⟨z.1, _, rfl, SqT.of hzE.1, rfl, _, _, rfl, _, _, rfl, rfl, ?_⟩
   refine ⟨_, rfl, _, _, rfl, rfl, ⟨by decide, by decide⟩, _, rfl, _, _, rfl, rfl, _, rfl, ?_⟩
   refine dec2 (fun h => ?_) (fun h => ?_)
   · rw [if_pos h] at nx
     have l1 := hD i
     refine ⟨_, rfl, _, rfl, ll, z.2.2.1, _, _, rfl, rfl, hll, hzE.2.1, (by rw [rf5_len, rf5_len]; have := hzE.2.2.2; omega), fun n hn => ?_⟩
     refine ⟨n, _, _, rfl, e.trans (same_upd hn), ?_⟩
     rw [upd_same, nx, rf5_app]
   · rw [if_neg h, List.append_nil] at nx
     refine ⟨ll, _, _, rfl, e, ?_⟩
     rw [nx]
     exact hll
 rintro σ H1 ⟨ll, o3, o4, rfl, e, hll⟩
 have l1 := hD E.length
 rw [show (dr E).take E.length = dr E by rw [show E.length = (dr E).length from (List.length_map ..).symm, List.take_length]] at l1
 rw [rfO_len, show (dr E).take E.length = dr E by rw [show E.length = (dr E).length from (List.length_map ..).symm, List.take_length]] at hll
 refine ⟨_, rfl, ll, _, rfl, hll, fun z hz => ?_, by omega, hky, fun p F H2 e2 hp0 hp hF hFg => q p F H2 (e.trans e2) (e.free hp0) hp hF hFg⟩
 unfold upto at hz
 obtain ⟨d, hd, hz⟩ := List.mem_flatMap.mp hz
 obtain ⟨e9, he, rfl⟩ := List.mem_map.mp hd
 split at hz
 · exact e _ _ ((hE e9 he).2.2.1 z hz)
 · cases hz
abbrev s_KeptBook_entries : Stmt := inClass (top 13) 3
theorem sc_KeptBook_entries : FnScope ["self"] ["self"] (defScope s_KeptBook_entries) := ⟨rfl, rfl, rfl, by decide +kernel, rfl, by decide +kernel, by decide +kernel⟩
theorem ok_KeptBook_entries {C_KeptBook : Addr} (D : DefM K C_KeptBook "entries" "Book.entries" s_KeptBook_entries .none) (z_list : mg "list" = none) (cl_KeptBook : Cls K C_KeptBook) (n_book : NoAttr K C_KeptBook "book") (n_kept : NoAttr K C_KeptBook "kept") (n_papers : NoAttr K C_KeptBook "papers") (n_in_force : NoAttr K C_KeptBook "in_force") : CalM P w K mg base CX0 true 2 C_KeptBook "entries" ["self"] [] (spEnt C_KeptBook) := by
 obtain ⟨f, fd, F, hm⟩ := D
 refine ⟨f, fd, _, F.ok sc_KeptBook_entries (fun vs H Q E h => ?_) (fun cdv A outer s H vs Q E hr h => ?_), hm, (F.binds fun _ _ _ _ _ _ us hl => match us, hl with | [_], _ => rfl), .nil, F.binds fun _ _ _ _ _ _ us hl => match us, hl with | [_], _ => rfl⟩
 · obtain ⟨p, kl, E, rfl, R, hk, hE, hEl, q⟩ := h
   rfl
 obtain ⟨p, kl, E, rfl, R, hk, hE, hEl, q⟩ := h
 have nd := sc_KeptBook_entries.nd
 refine ⟨_, (pss_one (ps_ret (pe_lcT (xs := ["day", "about", "lines"]) [] rfl (LcOkT.plain (xs := ["day", "about", "lines"]) (by decide +kernel) (by decide +kernel) rfl (by decide +kernel) (by decide +kernel) (by decide +kernel)) (pi_list (pe_fld (pv 0) rfl)) (pg_tup3T rfl (LcOkT.plain (xs := ["day", "about", "lines"]) (by decide +kernel) (by decide +kernel) rfl (by decide +kernel) (by decide +kernel) (by decide +kernel))) (fun C s2 H2 fp xe => (pe_tup (pa_cons (pv 0) (pa_cons (pv 1) (pa_cons (pe_callTy call_list_ofC rfl z_list bt_list (pa_cons (pv 2) pa_nil)) pa_nil)))))))), ?_⟩
 obtain ⟨dx, fs, hp, hke, hno⟩ := R
 have hline : 600 ≤ sizeLine := by decide
 refine ⟨_, rfl, p, C_KeptBook, dx, fs, _, rfl, hp, cl_KeptBook, n_kept, hke, _, rfl, ⟨_, SqL.of hk⟩, ?_⟩
 have el := rfE_len E
 refine lc_list (xs := rfE E) (fun j ys H2 => ∃ T : List En, ys = rfE T ∧ T.length = j ∧ dl T = dl (E.take j) ∧ TeL H2 T ∧ (∀ t ∈ T, H t.2.2.2.1 = none) ∧ Same H H2) ⟨[], rfl, rfl, rfl, (fun t ht => nomatch ht), (fun t ht => nomatch ht), fun _ _ h => h⟩ (by omega) ?_ ?_ ?_
 · rintro j ys H2 hj ⟨T, rfl, hT, _, _, _, e⟩
   exact ⟨SqL.of (e _ _ hk), by rw [rfE_len]; exact hT⟩
 · rintro j x ys H2 hx ⟨T, rfl, hT, hd, hTe, hTf, e⟩ σ0 h0
   obtain ⟨z, hz, rfl⟩ := rfE_at hx
   obtain ⟨u, v, w, rfl⟩ : ∃ u v w, σ0 = [u, v, w] := by
     rcases σ0 with _ | ⟨u, _ | ⟨v, _ | ⟨w, _ | ⟨w2, r⟩⟩⟩⟩ <;> simp at h0
     exact ⟨u, v, w, rfl⟩
   obtain ⟨h1, h2, h3, h4⟩ := (hE.same e) z (List.mem_of_getElem? hz)
   refine ⟨z.1, _, rfl, SqT.of h1, rfl, _, _, rfl, _, _, rfl, _, _, rfl, rfl, [_, _, _], rfl, rfl, _, rfl, _, rfl, _, rfl, z.2.2.2.1, _, rfl, .inr (SqT.of h2), fun l hl => ⟨(by show 3 ≤ sizeLine; decide), fun n hn => ?_⟩⟩
   have f1 := same_upd (o := .lst (rf5 z.2.2.2.2)) hl
   have f2 := same_upd (o := .tup [.int z.2.1, .int z.2.2.1, .ref l]) hn
   have f12 := f1.trans f2
   refine ⟨T ++ [(n, z.2.1, z.2.2.1, l, z.2.2.2.2)], by rw [rfE_app]; rfl, by rw [List.length_append, hT]; rfl, ?_, fun t ht => ?_, fun t ht => ?_, e.trans f12⟩
   · unfold dl at hd ⊢
     rw [take_nx hz, List.map_append, List.map_append, hd]
     rfl
   · rcases List.mem_append.mp ht with m | m
     · exact hTe.same f12 t m
     · rw [List.mem_singleton.mp m]
       exact ⟨upd_same, f2 _ _ upd_same, h4⟩
   · rcases List.mem_append.mp ht with m | m
     · exact hTf t m
     · rw [List.mem_singleton.mp m]
       exact e.free hl
 rintro ys H2 ⟨T, rfl, hT, hd, hTe, hTf, e⟩ r hr1
 rw [rfE_len, List.take_length] at hd
 have f3 := same_upd (o := .lst (rfE T)) hr1
 exact q r T _ (e.trans f3) (e.free hr1) upd_same (hTe.same f3) hTf hd
theorem sc_movement_of : FnScope ["book", "month", "lines", "day", "about", "more"] ["book", "month"] (defScope s_movement_of) := ⟨rfl, rfl, rfl, by decide +kernel, rfl, by decide +kernel, by decide +kernel⟩
theorem ok_movement_of (D : Def K mg "movement_of" s_movement_of .none) {C_KeptBook : Addr} (c_KeptBook_entries : CalM P w K mg base CX0 true 2 C_KeptBook "entries" ["self"] [] (spEnt C_KeptBook)) (c_month_of : Cal P w K mg base CX0 true 1 "month_of" ["day"] [] spMon) (c_figures_of : Cal P w K mg base CX0 true 2 "figures_of" ["lines"] [] spFigs) (cl_KeptBook : Cls K C_KeptBook) : Cal P w K mg base CX0 true 3 "movement_of" ["book", "month"] [] (spMov C_KeptBook) := by
 obtain ⟨f, fd, F, hm⟩ := D
 obtain ⟨f_KeptBook_entries, fd_KeptBook_entries, d_KeptBook_entries, G_KeptBook_entries, m_KeptBook_entries, b_KeptBook_entries, v_KeptBook_entries, b_KeptBook_entries1⟩ := c_KeptBook_entries
 obtain ⟨f_month_of, fd_month_of, d_month_of, G_month_of, m_month_of, k_month_of, b_month_of, v_month_of, b_month_of1⟩ := c_month_of
 obtain ⟨f_figures_of, fd_figures_of, d_figures_of, G_figures_of, m_figures_of, k_figures_of, b_figures_of, v_figures_of, b_figures_of1⟩ := c_figures_of
 refine ⟨f, fd, _, F.ok sc_movement_of (fun vs H Q E h => ?_) (fun cdv A outer s H vs Q E hr h => ?_), hm, F.kp, (F.binds fun _ _ _ _ _ _ us hl => match us, hl with | [_, _], _ => rfl), .nil, F.binds fun _ _ _ _ _ _ us hl => match us, hl with | [_, _], _ => rfl⟩
 · obtain ⟨p, kl, m, E, rfl, R, hk, hE, hEl, hky, q⟩ := h
   rfl
 obtain ⟨p, kl, m, E, rfl, R, hk, hE, hEl, hky, q⟩ := h
 have nd := sc_movement_of.nd
 refine ⟨_, (pss_cons (ps_set (i := 2) nd rfl (Or.inl rfl) (pe_lst pa_nil))
   (pss_cons (ps_for PassesOwn.never rfl (pi_list (pe_meth0 (pv 0) cl_KeptBook m_KeptBook_entries G_KeptBook_entries (hr.mono (by decide)) b_KeptBook_entries Paired.nil pass0)) (pg_tup rfl (pgs_cons (pg_name (i := 3) nd rfl (Or.inl rfl)) (pgs_cons (pg_name (i := 4) nd rfl (Or.inl rfl)) (pgs_cons (pg_name (i := 5) nd rfl (Or.inl rfl)) pgs_nil)))) (pss_one (ps_if (pt_cmpR op_eq (pe_call G_month_of (hr.mono (by decide)) rfl m_month_of k_month_of b_month_of Paired.nil pass0 (pa_cons (pv 3) pa_nil)) (pv 1) (nomark _)) (pss_one (ps_expr (pe_bm PySem.F.plainAttrs_list PySem.F.slot_list_extend PySem.F.type_list_extend mt_extend (pv 2) (pa_cons (pv 5) pa_nil)))) pss_nil)))
   (pss_one (ps_ret (pe_call G_figures_of (hr.mono (by decide)) rfl m_figures_of k_figures_of b_figures_of Paired.nil pass0 (pa_cons (pv 2) pa_nil)))))), ?_⟩
 have hline : 600 ≤ sizeLine := by decide
 refine ⟨(by show 0 ≤ sizeLine; decide), fun l hl => ?_⟩
 have e1 := same_upd (o := .lst []) hl
 obtain ⟨dx, fs, hp, hke, hno⟩ := R
 refine ⟨_, rfl, p, dx, fs, rfl, e1 _ _ hp, hno, p, kl, E, rfl, ⟨dx, fs, e1 _ _ hp, hke, hno⟩, e1 _ _ hk, hE.same e1, hEl, fun r T H2 e2 hr0 hr2 hT hTf hd => ⟨r, rfl, ⟨_, SqL.of hr2⟩, ?_⟩⟩
 have ed : (dl T) = dl E := hd
 have hTl : T.length = E.length := by
   have := congrArg List.length hd
   unfold dl at this
   rw [List.length_map, List.length_map] at this
   exact this
 have tl := rfE_len T
 have hD : ∀ i, (mon ((dl T).take i) m).length ≤ 80 := fun i => by
   have h := mon_len (D := (dl T).take i) (m := m) (fun d hd => by
     obtain ⟨e, he, rfl⟩ := List.mem_map.mp (List.mem_of_mem_take hd)
     exact (hT e he).2.2)
   rw [List.length_take] at h
   have : (dl T).length = T.length := List.length_map ..
   omega
 refine for_list (xs := rfE T) (fun i σ H' => ∃ (o3 o4 o5 : Option V), σ = [some (.ref p), some (.int m), some (.ref l), o3, o4, o5] ∧ Same H H' ∧ H' l = some (.lst (rf5 (mon ((dl T).take i) m))) ∧ TeL H' T ∧ H' r = some (.lst (rfE T))) ⟨_, _, _, rfl, e1.trans e2, e2 _ _ upd_same, hT, hr2⟩ ?_ ?_ ?_
 · rintro i σ H3 hi ⟨o3, o4, o5, rfl, e, hll, hTT, hrr⟩
   exact SqL.of hrr
 · rintro i x σ H3 hx ⟨o3, o4, o5, rfl, e, hll, hTT, hrr⟩
   obtain ⟨z, hz, rfl⟩ := rfE_at hx
   have hzm := List.mem_of_getElem? hz
   obtain ⟨h1, h2, h3⟩ := hTT z hzm
   have nx := mon_nx (m := m) (show (dl T)[i]? = some (z.2.1, z.2.2.2.2) by unfold dl; rw [List.getElem?_map, hz]; rfl)
   refine ⟨z.1, _, rfl, SqT.of h1, rfl, _, _, rfl, _, _, rfl, _, _, rfl, rfl, ?_⟩
   refine ⟨_, rfl, z.2.1, rfl, _, rfl, rfl, _, rfl, ?_⟩
   refine dec2 (fun h => ?_) (fun h => ?_)
   · rw [if_pos (V.int.inj h)] at nx
     have l1 := hD i
     refine ⟨_, rfl, .inl ⟨rfl, _, SqL.of hll⟩, _, rfl, l, z.2.2.2.1, _, _, rfl, rfl, hll, h2, (by rw [rf5_len, rf5_len]; omega), ?_⟩
     refine ⟨_, _, _, rfl, same_set e hl, by rw [upd_same, nx, rf5_app], fun t ht => ?_, ?_⟩
     · obtain ⟨k1, k2, k3⟩ := hTT t ht
       refine ⟨tup_keepL k1 hll, ?_, k3⟩
       rw [upd_ne (Ne.symm (some_ne upd_same (hTf t ht)))]
       exact k2
     · rw [upd_ne (Ne.symm (some_ne upd_same hr0))]
       exact hrr
   · rw [if_neg (fun w => h (congrArg V.int w)), List.append_nil] at nx
     exact ⟨_, _, _, rfl, e, by rw [nx]; exact hll, hTT, hrr⟩
 rintro σ H3 ⟨o3, o4, o5, rfl, e, hll, hTT, hrr⟩
 have l1 := hD T.length
 rw [show (dl T).take T.length = dl T by rw [show T.length = (dl T).length from (List.length_map ..).symm, List.take_length], ed] at l1
 rw [rfE_len, show (dl T).take T.length = dl T by rw [show T.length = (dl T).length from (List.length_map ..).symm, List.take_length], ed] at hll
 exact ⟨_, rfl, l, _, rfl, hll, (mem_mon hE).same e, by omega, hky, fun g F H4 e4 hg0 hg hF hFg => q g F H4 (e.trans e4) (e.free hg0) hg hF hFg⟩
theorem sc_carried : FnScope ["figures", "more"] ["figures", "more"] (defScope s_carried) := ⟨rfl, rfl, rfl, by decide +kernel, rfl, by decide +kernel, by decide +kernel⟩
theorem ok_carried (D : Def K mg "carried" s_carried .none) (c_put_together : Cal P w K mg base CX0 true 1 "put_together" ["rows"] [] spPut) : Cal P w K mg base CX0 true 2 "carried" ["figures", "more"] [] spCar := by
 obtain ⟨f, fd, F, hm⟩ := D
 obtain ⟨f_put_together, fd_put_together, d_put_together, G_put_together, m_put_together, k_put_together, b_put_together, v_put_together, b_put_together1⟩ := c_put_together
 refine ⟨f, fd, _, F.ok sc_carried (fun vs H Q E h => ?_) (fun cdv A outer s H vs Q E hr h => ?_), hm, F.kp, (F.binds fun _ _ _ _ _ _ us hl => match us, hl with | [_, _], _ => rfl), .nil, F.binds fun _ _ _ _ _ _ us hl => match us, hl with | [_, _], _ => rfl⟩
 · obtain ⟨a, b, F1, F2, rfl, ha, h1, hb, h2, l1, l2, hky, q⟩ := h
   rfl
 obtain ⟨a, b, F1, F2, rfl, ha, h1, hb, h2, l1, l2, hky, q⟩ := h
 have nd := sc_carried.nd
 refine ⟨_, (pss_one (ps_ret (pe_call G_put_together (hr.mono (by decide)) rfl m_put_together k_put_together b_put_together Paired.nil pass0 (pa_cons (pe_op op_cat (pv 0) (pv 1)) pa_nil)))), ?_⟩
 have hline : 600 ≤ sizeLine := by decide
 refine ⟨_, rfl, _, rfl, a, b, _, _, rfl, rfl, ha, hb, (by rw [rf4_len, rf4_len]; omega), fun n hn => ?_⟩
 have f := same_upd (o := .lst (rf4 F1 ++ rf4 F2)) hn
 refine ⟨n, F1 ++ F2, rfl, by rw [upd_same, rf4_app], fun z hz => ?_, by rw [List.length_append]; omega, by rw [List.map_append]; exact hky, fun p F H' e hp0 hp hF hFg => ?_⟩
 · rcases List.mem_append.mp hz with m | m
   · exact f _ _ (h1 z m)
   · exact f _ _ (h2 z m)
 · rw [List.map_append] at hFg
   exact q p F H' (f.trans e) (f.free hp0) hp hF hFg
theorem sc_paper_holds : FnScope ["book", "paper"] ["book", "paper"] (defScope s_paper_holds) := ⟨rfl, rfl, rfl, by decide +kernel, rfl, by decide +kernel, by decide +kernel⟩
theorem ok_paper_holds (D : Def K mg "paper_holds" s_paper_holds .none) {C_KeptBook : Addr} (c_KeptBook_figures : CalM P w K mg base CX0 true 4 C_KeptBook "figures" ["self", "upto"] [.non] (spFigures C_KeptBook)) (cl_KeptBook : Cls K C_KeptBook) (n_book : NoAttr K C_KeptBook "book") : Cal P w K mg base CX0 true 5 "paper_holds" ["book", "paper"] [] (spHolds C_KeptBook) := by
 obtain ⟨f, fd, F, hm⟩ := D
 obtain ⟨f_KeptBook_figures, fd_KeptBook_figures, d_KeptBook_figures, G_KeptBook_figures, m_KeptBook_figures, b_KeptBook_figures, v_KeptBook_figures, b_KeptBook_figures1⟩ := c_KeptBook_figures
 refine ⟨f, fd, _, F.ok sc_paper_holds (fun vs H Q E h => ?_) (fun cdv A outer s H vs Q E hr h => ?_), hm, F.kp, (F.binds fun _ _ _ _ _ _ us hl => match us, hl with | [_, _], _ => rfl), .nil, F.binds fun _ _ _ _ _ _ us hl => match us, hl with | [_, _], _ => rfl⟩
 · obtain ⟨p, kl, pl, fl, tp, gl, f, m, t, E, G, rfl, R, hk, hE, hEl, hky, htp, hgl, hG, hGf, q⟩ := h
   rfl
 obtain ⟨p, kl, pl, fl, tp, gl, f, m, t, E, G, rfl, R, hk, hE, hEl, hky, htp, hgl, hG, hGf, q⟩ := h
 have nd := sc_paper_holds.nd
 refine ⟨_, (pss_one (ps_ret (pe_and (pe_cmpR op_eq (pe_ix ix_seq (pv 1) pe_int (fun _ _ => rfl)) (pe_fld (pv 0) rfl) (nomark _)) (pe_one (pe_cmpR (op_eqB hr) (pe_ix ix_seq (pv 1) pe_int (fun _ _ => rfl)) (pe_meth (pv 0) cl_KeptBook m_KeptBook_figures G_KeptBook_figures (hr.mono (by decide)) b_KeptBook_figures Paired.nil pass0 (pa_cons (pe_ix ix_seq (pv 1) pe_int (fun _ _ => rfl)) pa_nil)) (nomark _)))))), ?_⟩
 obtain ⟨dx, fs, hp, hbk, hke, hpa, hin, hno⟩ := R.ob
 have hT := SqT.of (K := K) htp
 refine ⟨_, rfl, .inr (.inl ⟨tp, _, 0, _, rfl, rfl, hT, rfl, _, rfl, p, C_KeptBook, dx, fs, _, rfl, hp, cl_KeptBook, n_book, hbk, rfl, _, rfl, decT rfl ?_⟩)⟩
 refine ⟨_, rfl, .inr (.inl ⟨tp, _, 3, _, rfl, rfl, hT, rfl, _, rfl, p, dx, fs, rfl, hp, hno _ (by decide +kernel), _, rfl, .inr (.inl ⟨tp, _, 1, _, rfl, rfl, hT, rfl, p, kl, pl, fl, f, m, E, rfl, R, hk, hE, hEl, hky, fun r F H1 e1 _ hr1 hF hFig => ?_⟩)⟩)⟩
 refine ⟨gl, r, _, _, _, rfl, rfl, SqL.of (e1 _ _ hgl), SqL.of hr1, rows_eqB (hG.same e1) hF, ?_⟩
 rw [lstB_rows, fig_one hFig hGf, decide_eq_true rfl]
 exact q _ e1
theorem sc__law_paper : FnScope ["_law_found", "_law_due", "_law_row"] ["_law_found", "_law_due"] (defScope s__law_paper) := ⟨rfl, rfl, rfl, by decide +kernel, rfl, by decide +kernel, by decide +kernel⟩
theorem ok__law_paper (D : Def K mg "_law_paper" s__law_paper .none) (c__law_whole : Cal P w K mg base CX0 true 1 "_law_whole" ["_law_found"] [] spWhole) (z_isinstance : mg "isinstance" = none) (z_tuple : mg "tuple" = none) (z_len : mg "len" = none) (z_list : mg "list" = none) (z_str : mg "str" = none) : Cal P w K mg base CX0 true 2 "_law_paper" ["_law_found", "_law_due"] [] spPaper := by
 obtain ⟨f, fd, F, hm⟩ := D
 obtain ⟨f__law_whole, fd__law_whole, d__law_whole, G__law_whole, m__law_whole, k__law_whole, b__law_whole, v__law_whole, b__law_whole1⟩ := c__law_whole
 refine ⟨f, fd, _, F.ok sc__law_paper (fun vs H Q E h => ?_) (fun cdv A outer s H vs Q E hr h => ?_), hm, F.kp, (F.binds fun _ _ _ _ _ _ us hl => match us, hl with | [_, _], _ => rfl), .nil, F.binds fun _ _ _ _ _ _ us hl => match us, hl with | [_, _], _ => rfl⟩
 · obtain ⟨f, k, tt, z, y, rfl, hz, hy, hg, q⟩ := h
   rfl
 obtain ⟨f, k, tt, z, y, rfl, hz, hy, hg, q⟩ := h
 have nd := sc__law_paper.nd
 refine ⟨_, (pss_cons (ps_if (PW.pt (pw_or (pt_not (pt_val (pe_callB call_is rfl z_isinstance bt_isinstance (pa_cons (pv 0) (pa_cons (pe_bltn (v := .ty "tuple") rfl z_tuple bt_tuple rfl) pa_nil))))) (pw_or (pt_cmpR op_ne (pe_callB call_len_seq rfl z_len bt_len (pa_cons (pv 0) pa_nil)) pe_int (nomark _)) (pw_or1 (pt_not (pt_val (pe_callB call_is rfl z_isinstance bt_isinstance (pa_cons (pe_ix ix_seq (pv 0) pe_int (fun _ _ => rfl)) (pa_cons (pe_bltn (v := .ty "list") rfl z_list bt_list rfl) pa_nil))))))))) (pss_one (ps_ret pe_bl)) pss_nil)
   (pss_cons (ps_if (PW.pt (pw_or (pt_not (pt_val (pe_callB call_is rfl z_isinstance bt_isinstance (pa_cons (pe_ix ix_seq (pv 0) pe_int (fun _ _ => rfl)) (pa_cons (pe_bltn (v := .ty "str") rfl z_str bt_str rfl) pa_nil))))) (pw_or (pt_not (pt_val (pe_call G__law_whole (hr.mono (by decide)) rfl m__law_whole k__law_whole b__law_whole Paired.nil pass0 (pa_cons (pe_ix ix_seq (pv 0) pe_int (fun _ _ => rfl)) pa_nil)))) (pw_or1 (pt_not (pt_val (pe_call G__law_whole (hr.mono (by decide)) rfl m__law_whole k__law_whole b__law_whole Paired.nil pass0 (pa_cons (pe_ix ix_seq (pv 0) pe_int (fun _ _ => rfl)) pa_nil)))))))) (pss_one (ps_ret pe_bl)) pss_nil)
   (pss_cons (ps_for PassesOwn.never rfl (pi_list (pe_ix ix_seq (pv 0) pe_int (fun _ _ => rfl))) (pg_name (i := 2) nd rfl (Or.inl rfl)) (pss_one (ps_if (PW.pt (pw_or (pt_not (pt_val (pe_callB call_is rfl z_isinstance bt_isinstance (pa_cons (pv 2) (pa_cons (pe_bltn (v := .ty "tuple") rfl z_tuple bt_tuple rfl) pa_nil))))) (pw_or (pt_cmpR op_ne (pe_callB call_len_seq rfl z_len bt_len (pa_cons (pv 2) pa_nil)) pe_int (nomark _)) (pw_or (pt_not (pt_val (pe_call G__law_whole (hr.mono (by decide)) rfl m__law_whole k__law_whole b__law_whole Paired.nil pass0 (pa_cons (pe_ix ix_seq (pv 2) pe_int (fun _ _ => rfl)) pa_nil)))) (pw_or1 (pt_not (pt_val (pe_call G__law_whole (hr.mono (by decide)) rfl m__law_whole k__law_whole b__law_whole Paired.nil pass0 (pa_cons (pe_ix ix_seq (pv 2) pe_int (fun _ _ => rfl)) pa_nil))))))))) (pss_one (ps_ret pe_bl)) pss_nil)))
   (pss_one (ps_ret (pe_cmpR (op_eqU hr) (pv 0) (pv 1) (nomark _))))))), ?_⟩
 have hT := SqT.of (K := K) hz.1
 have hl3 : z.2.2.length = y.2.2.length := by
   have := congrArg List.length hg
   unfold gs at this
   rw [List.length_map, List.length_map] at this
   exact this
 refine ⟨_, rfl, _, _, _, _, _, rfl, .of (.tup hz.1), rfl, rfl, true, rfl, iteF ?_⟩
 refine ⟨_, rfl, z.1, _, rfl, .inr hT, rfl, _, rfl, ndecF rfl ?_⟩
 refine ⟨_, rfl, .inr (.inl ⟨z.1, _, 3, _, rfl, rfl, hT, rfl, _, _, _, _, _, rfl, .of (.lst hz.2.1), rfl, rfl, true, rfl, iteF ?_⟩)⟩
 refine ⟨_, rfl, .inr (.inl ⟨z.1, _, 0, _, rfl, rfl, hT, rfl, _, _, _, _, _, rfl, .of (.str _), rfl, rfl, true, rfl, iteF ?_⟩)⟩
 refine ⟨_, rfl, .inr (.inl ⟨z.1, _, 1, _, rfl, rfl, hT, rfl, _, rfl, true, rfl, iteF ?_⟩)⟩
 refine ⟨_, rfl, .inr (.inl ⟨z.1, _, 2, _, rfl, rfl, hT, rfl, _, rfl, true, rfl, iteF ?_⟩)⟩
 refine ⟨_, rfl, .inr (.inl ⟨z.1, _, 3, _, rfl, rfl, hT, rfl, z.2.1, rfl, ⟨_, SqL.of hz.2.1⟩, ?_⟩)⟩
 refine for_list (xs := rf4 z.2.2) (fun i σ H' => ∃ (o : Option V), σ = [some (.ref z.1), some (.ref y.1), o] ∧ H' = H) ⟨_, rfl, rfl⟩ ?_ ?_ ?_
 · rintro i σ H4 hi ⟨o, rfl, rfl⟩
   exact SqL.of hz.2.1
 · rintro i x σ H4 hx ⟨o, rfl, rfl⟩
   obtain ⟨v, hv, rfl⟩ := rf4_at hx
   have hvv := hz.2.2 v (List.mem_of_getElem? hv)
   have hV := SqT.of (K := K) hvv
   refine ⟨_, rfl, _, _, _, _, _, rfl, .of (.tup hvv), rfl, rfl, true, rfl, iteF ?_⟩
   refine ⟨_, rfl, v.1, _, rfl, .inr hV, rfl, _, rfl, ndecF rfl ?_⟩
   refine ⟨_, rfl, .inr (.inl ⟨v.1, _, 2, _, rfl, rfl, hV, rfl, _, rfl, true, rfl, iteF ?_⟩)⟩
   exact ⟨_, rfl, .inr (.inl ⟨v.1, _, 3, _, rfl, rfl, hV, rfl, _, rfl, true, rfl, iteF ⟨_, rfl, rfl⟩⟩)⟩
 rintro σ H4 ⟨o, rfl, rfl⟩
 refine ⟨_, rfl, _, rfl, z.1, y.1, _, _, rfl, rfl, SqT.of hz.1, SqT.of hy.1, rfl, fun j x u h1 h2 => ?_, q⟩
 rcases j with _ | _ | _ | _ | j
 · cases h1; cases h2
   exact .inl (.inl ⟨rfl, rfl⟩)
 · cases h1; cases h2
   exact .inl (.inl ⟨rfl, rfl⟩)
 · cases h1; cases h2
   exact .inl (.inl ⟨rfl, rfl⟩)
 · cases h1; cases h2
   refine .inr ⟨z.2.1, y.2.1, _, _, rfl, rfl, SqL.of hz.2.1, SqL.of hy.2.1, by rw [rf4_len, rf4_len]; exact hl3, fun j x u h1 h2 => ?_⟩
   obtain ⟨y1, m1, rfl⟩ := rf4_at h1
   obtain ⟨y2, m2, rfl⟩ := rf4_at h2
   have hyy : y1.2 = y2.2 := by
     have h := congrArg (fun l => l[j]?) hg
     unfold gs at h
     simp only [List.getElem?_map, m1, m2] at h
     exact Option.some.inj h
   have t1 := hz.2.2 y1 (List.mem_of_getElem? m1)
   have t2 := hy.2.2 y2 (List.mem_of_getElem? m2)
   unfold tup4 at t1 t2
   rw [← hyy] at t2
   refine .inr ⟨y1.1, y2.1, _, rfl, rfl, SqT.of t1, SqT.of t2, fun w hw => ?_⟩
   simp only [List.mem_cons, List.not_mem_nil, or_false] at hw
   rcases hw with rfl | rfl | rfl | rfl <;> rfl
 · cases h1
theorem sc__law_papers : FnScope ["_law_found", "_law_due", "_law_k"] ["_law_found", "_law_due"] (defScope s__law_papers) := ⟨rfl, rfl, rfl, by decide +kernel, rfl, by decide +kernel, by decide +kernel⟩
theorem ok__law_papers (D : Def K mg "_law_papers" s__law_papers .none) (c__law_paper : Cal P w K mg base CX0 true 2 "_law_paper" ["_law_found", "_law_due"] [] spPaper) (z_isinstance : mg "isinstance" = none) (z_list : mg "list" = none) (z_len : mg "len" = none) (z_range : mg "range" = none) : Cal P w K mg base CX0 true 3 "_law_papers" ["_law_found", "_law_due"] [] spPapers := by
 obtain ⟨f, fd, F, hm⟩ := D
 obtain ⟨f__law_paper, fd__law_paper, d__law_paper, G__law_paper, m__law_paper, k__law_paper, b__law_paper, v__law_paper, b__law_paper1⟩ := c__law_paper
 refine ⟨f, fd, _, F.ok sc__law_papers (fun vs H Q E h => ?_) (fun cdv A outer s H vs Q E hr h => ?_), hm, F.kp, (F.binds fun _ _ _ _ _ _ us hl => match us, hl with | [_, _], _ => rfl), .nil, F.binds fun _ _ _ _ _ _ us hl => match us, hl with | [_, _], _ => rfl⟩
 · obtain ⟨a, b, Z, Y, G, rfl, ha, hZ, hb, hY, hZl, q⟩ := h
   rfl
 obtain ⟨a, b, Z, Y, G, rfl, ha, hZ, hb, hY, hZl, q⟩ := h
 have nd := sc__law_papers.nd
 refine ⟨_, (pss_cons (ps_if (PW.pt (pw_or (pt_not (pt_val (pe_callB call_is rfl z_isinstance bt_isinstance (pa_cons (pv 0) (pa_cons (pe_bltn (v := .ty "list") rfl z_list bt_list rfl) pa_nil))))) (pw_or1 (pt_cmpR op_ne (pe_callB call_len_seq rfl z_len bt_len (pa_cons (pv 0) pa_nil)) (pe_callB call_len_seq rfl z_len bt_len (pa_cons (pv 1) pa_nil)) (nomark _))))) (pss_one (ps_ret pe_bl)) pss_nil)
   (pss_cons (ps_for PassesOwn.never rfl (pi_range1 rfl z_range (pa_cons (pe_callB call_len_seq rfl z_len bt_len (pa_cons (pv 1) pa_nil)) pa_nil)) (pg_name (i := 2) nd rfl (Or.inl rfl)) (pss_one (ps_if (pt_not (pt_val (pe_call G__law_paper (hr.mono (by decide)) rfl m__law_paper k__law_paper b__law_paper Paired.nil pass0 (pa_cons (pe_ix ix_seq (pv 0) (pv 2) (fun _ _ => rfl)) (pa_cons (pe_ix ix_seq (pv 1) (pv 2) (fun _ _ => rfl)) pa_nil))))) (pss_one (ps_ret pe_bl)) pss_nil)))
   (pss_one (ps_ret pe_bl)))), ?_⟩
 have hline : 600 ≤ sizeLine := by decide
 have hl : Z.length = Y.length := hZ.1.trans hY.1.symm
 have hG := hY.1
 have l1 := rfP_len Z
 have l2 := rfP_len Y
 refine ⟨_, rfl, _, _, _, _, _, rfl, .of (.lst ha), rfl, rfl, true, rfl, iteF ?_⟩
 refine ⟨_, rfl, a, _, rfl, .inl (SqL.of ha), _, rfl, b, _, rfl, .inl (SqL.of hb), rfl, _, rfl, ndecF (congrArg V.int (by omega)) ?_⟩
 refine ⟨_, rfl, b, _, rfl, .inl (SqL.of hb), _, rfl, by omega, by omega, ?_⟩
 refine for_range (fun i σ H' => ∃ (o : Option V), σ = [some (.ref a), some (.ref b), o] ∧ H' = H) ⟨_, rfl, rfl⟩ ?_ ?_
 · rintro i σ H1 hi ⟨o, rfl, rfl⟩
   have hi2 : i < Y.length := by omega
   have hz := List.getElem?_eq_getElem (l := Z) (i := i) (by omega)
   have hy := List.getElem?_eq_getElem (l := Y) (i := i) hi2
   obtain ⟨g, hg⟩ : ∃ g, G[i]? = some g := ⟨_, List.getElem?_eq_getElem (by omega)⟩
   have z2 := hZ.2 i g _ hg hz
   have y2 := hY.2 i g _ hg hy
   have gg := z2.2.trans y2.2.symm
   have az : atI (rfP Z) (0 + (i : Int)) = some (.ref (Z[i]'(by omega)).1) := by
     rw [show (0 + (i : Int)) = ((i : Nat) : Int) by omega]
     refine atI_nat ?_
     unfold rfP
     rw [List.getElem?_map, hz]
     rfl
   have ay : atI (rfP Y) (0 + (i : Int)) = some (.ref Y[i].1) := by
     rw [show (0 + (i : Int)) = ((i : Nat) : Int) by omega]
     refine atI_nat ?_
     unfold rfP
     rw [List.getElem?_map, hy]
     rfl
   refine ⟨_, rfl, _, rfl, .inl ⟨a, _, _, _, rfl, rfl, SqL.of ha, az, _, rfl, _, rfl, .inl ⟨b, _, _, _, rfl, rfl, SqL.of hb, ay, g.1, g.2.1, g.2.2.1, _, _, rfl, z2.1, y2.1, gg, true, rfl, iteF ⟨_, rfl, rfl⟩⟩⟩⟩
 rintro σ H1 ⟨o, rfl, rfl⟩
 exact q
theorem sc__law_copies : FnScope ["_law_papers_here"] ["_law_papers_here"] (defScope s__law_copies) := ⟨rfl, rfl, rfl, by decide +kernel, rfl, by decide +kernel, by decide +kernel⟩
theorem ok__law_copies (D : Def K mg "_law_copies" s__law_copies .none) (z_list : mg "list" = none) : Cal P w K mg base CX0 true 1 "_law_copies" ["_law_papers_here"] [] spCps := by
 obtain ⟨f, fd, F, hm⟩ := D
 refine ⟨f, fd, _, F.ok sc__law_copies (fun vs H Q E h => ?_) (fun cdv A outer s H vs Q E hr h => ?_), hm, F.kp, (F.binds fun _ _ _ _ _ _ us hl => match us, hl with | [_], _ => rfl), .nil, F.binds fun _ _ _ _ _ _ us hl => match us, hl with | [_], _ => rfl⟩
 · obtain ⟨a, Z, G, rfl, ha, hZ, hZl, q⟩ := h
   rfl
 obtain ⟨a, Z, G, rfl, ha, hZ, hZl, q⟩ := h
 have nd := sc__law_copies.nd
 refine ⟨_, (pss_one (ps_ret (pe_lc [] rfl (LcOk.plain (by decide +kernel) (by decide +kernel) rfl (by decide +kernel) rfl) (pi_list (pv 0)) (fun C s2 H2 fp xe => (pe_tup (pa_cons (pe_ix ix_seqC (pv 0) pe_int (fun _ _ => rfl)) (pa_cons (pe_ix ix_seqC (pv 0) pe_int (fun _ _ => rfl)) (pa_cons (pe_ix ix_seqC (pv 0) pe_int (fun _ _ => rfl)) (pa_cons (pe_callTy call_list_ofC rfl z_list bt_list (pa_cons (pe_ix ix_seqC (pv 0) pe_int (fun _ _ => rfl)) pa_nil)) pa_nil))))))))), ?_⟩
 have hline : 600 ≤ sizeLine := by decide
 refine ⟨_, rfl, a, rfl, ⟨_, SqL.of ha⟩, ?_⟩
 have zl := rfP_len Z
 refine lc_list (xs := rfP Z) (fun j ys H2 => ∃ Y : List Pp, ys = rfP Y ∧ Y.length = j ∧ PaG H2 (G.take j) Y ∧ (∀ y ∈ Y, H y.2.1 = none) ∧ Same H H2) ⟨[], rfl, rfl, PaG.nil _, (fun y hy => nomatch hy), fun _ _ h => h⟩ (by omega) ?_ ?_ ?_
 · rintro j ys H2 hj ⟨Y, rfl, hY, _, _, e⟩
   exact ⟨SqL.of (e _ _ ha), by rw [rfP_len]; exact hY⟩
 · rintro j x ys H2 hx ⟨Y, rfl, hY, hYp, hYf, e⟩
   obtain ⟨z, hz, rfl⟩ := rfP_at hx
   obtain ⟨g, hg⟩ : ∃ g, G[j]? = some g := ⟨_, List.getElem?_eq_getElem (by have := (List.getElem?_eq_some_iff.mp hz).1; have := hZ.1; omega)⟩
   obtain ⟨pz, gz⟩ := hZ.2 j g z hg hz
   have pz2 := pz.same e
   have hT := SqT.of (K := K) pz2.1
   refine ⟨_, rfl, .inr (.inl ⟨z.1, _, 0, _, rfl, rfl, hT, rfl, _, rfl, .inr (.inl ⟨z.1, _, 1, _, rfl, rfl, hT, rfl, _, rfl, .inr (.inl ⟨z.1, _, 2, _, rfl, rfl, hT, rfl, _, rfl, .inr (.inl ⟨z.1, _, 3, _, rfl, rfl, hT, rfl, z.2.1, _, rfl, .inl (SqL.of pz2.2.1), fun l hl => ⟨(by show 4 ≤ sizeLine; decide), fun n hn => ?_⟩⟩)⟩)⟩)⟩)⟩
   have f1 := same_upd (o := .lst (rf4 z.2.2)) hl
   have f2 := same_upd (o := .tup [.str g.1, .int (g.2.1 : Int), .int (g.2.2.1 : Int), .ref l]) hn
   have f12 := f1.trans f2
   refine ⟨Y ++ [(n, l, z.2.2)], by rw [rfP_app]; rfl, by rw [List.length_append, hY]; rfl, ?_, fun w hw => ?_, e.trans f12⟩
   · rw [take_nx hg]
     exact (hYp.same f12).app ⟨⟨upd_same, f2 _ _ upd_same, (pz2.2.2).same f12⟩, gz⟩
   · rcases List.mem_append.mp hw with m | m
     · exact hYf w m
     · rw [List.mem_singleton.mp m]
       exact e.free hl
 rintro ys H2 ⟨Y, rfl, hY, hYp, hYf, e⟩ r hr1
 rw [rfP_len, hZ.1, List.take_length] at hYp
 have f3 := same_upd (o := .lst (rfP Y)) hr1
 exact q r Y _ (e.trans f3) (e.free hr1) upd_same (hYp.same f3) hYf
theorem call_list_ofI {X : Cx} {pn : List (Addr × Obj)} {E' : Value → Shared → Prop} : CallR (into X pn E') (.type "list") (fun xs H Q => ∃ p ys, xs = [.ref p] ∧ (SqL X.K H p ys ∨ SqT X.K H p ys) ∧ ∀ l, H l = none → Q (.ref l) (upd H l (.lst ys))) := call_list_of (X := into X pn E')
def spPosted (C : Addr) : Sp := fun vs H Q _ => ∃ (p kl pl fl : Addr) (f : Str) (xs es : List V) (d ab : Int) (l : Addr) (L : List Ln), vs = [.ref p, .int d, .int ab, .ref l] ∧ KB C H p kl pl fl f ∧ H fl = some (.lst xs) ∧ H kl = some (.lst es) ∧ es.length ≤ 100 ∧ H l = some (.lst (rf5 L)) ∧ R5 H L ∧ Good f L ∧
 (d / 30 < (xs.length : Int) → ∀ H', Same H H' → Q (.int (-1)) H') ∧
 ((xs.length : Int) ≤ d / 30 → ∀ (e t : Addr) H', (∀ b o, H b = some o → b ≠ kl → H' b = some o) → H' kl = some (.lst (es ++ [.ref e])) → H' e = some (.tup [.int d, .int ab, .ref t]) → H' t = some (.tup (rf5 L)) → Q (.int es.length) H')
def spOpened (C : Addr) : Sp := fun vs H Q _ => ∃ (p kl pl fl : Addr) (f : Str) (v : V) (Z : List Pp), vs = [.ref p, v] ∧ KB C H p kl pl fl f ∧ H fl = some (.lst (rfP Z)) ∧ Z.length ≤ 60 ∧
 (((Z = [] ∨ ∃ (Z0 : List Pp) (z : Pp) (k t : Nat), Z = Z0 ++ [z] ∧ Pap H f k t z ∧ HdB H v f k t (gs z) false) ∧ ∀ H', Same H H' → Q (.int 0) H') ∨
  ∃ (Z0 : List Pp) (z : Pp) (k t : Nat), Z = Z0 ++ [z] ∧ Pap H f k t z ∧ HdB H v f k t (gs z) true ∧ ∀ H', (∀ b o, H b = some o → b ≠ fl → H' b = some o) → H' fl = some (.lst (rfP Z0)) → Q (.int 1) H')
structure PI (f : Str) (D : Dl) (G U : List Pg) : Prop where
 g : ∀ (j : Nat) g, G[j]? = some g → g.1 = f ∧ g.2.2.1 = j + 1
 n : ∀ g ∈ G, g.2.2.2.length ≤ 60
 u : ∀ (i : Nat) u, U[i]? = some u → u.2.1 = i ∧ 1 ≤ u.2.2.1 ∧ G[u.2.2.1 - 1]? = some u ∧ (∀ (j : Nat) g, u.2.2.1 ≤ j → G[j]? = some g → i < g.2.1) ∧ Fig ((upto D i).map (·.2.2)) u.2.2.2
theorem last_at {α : Type} (A : List α) (a : α) : (A ++ [a])[A.length]? = some a := by
 rw [List.getElem?_append_right (Nat.le_refl _), Nat.sub_self]
 rfl
theorem str_x_ne (s : Str) : s ++ "x" ≠ s := fun e => by
 have := congrArg PySem.Str.length e
 rw [str_len_app] at this
 have l1 : (("x" : Str)).length = 1 := by decide +kernel
 omega
theorem hd_no {H : Hp} {a gl : Addr} {f g' : Str} {k t : Nat} {m' t' : Int} {G : List Rw4} {P : List Pr} (h1 : H a = some (.tup [.str g', .int m', .int t', .ref gl])) (h2 : H gl = some (.lst (rf4 G))) (h3 : R4 H G) (n : ¬ (g' = f ∧ m' = k ∧ t' = t ∧ G.map (·.2) = P)) : HdB H (.ref a) f k t P false := .inr ⟨a, gl, g', m', t', G, rfl, h1, h2, h3, (decide_eq_false n).symm⟩
theorem cut_last (xs : List V) (x : V) : cutV (xs ++ [x]) (some (((xs ++ [x]).length : Int) - 1)) none = [x] := by
 have hl : (xs ++ [x]).length = xs.length + 1 := by rw [List.length_append]; rfl
 unfold cutV
 rw [HT.sIx_none, hl, show (((xs.length + 1 : Nat) : Int) - 1) = ((xs.length : Nat) : Int) by omega, HT.sIx_nat, show min xs.length (xs.length + 1) = xs.length by omega, List.drop_left, show xs.length + 1 - xs.length = 1 by omega]
 rfl
theorem cut_nil (lo hi : Option Int) : cutV [] lo hi = [] := by
 unfold cutV
 rw [List.drop_nil, List.take_nil]
theorem pp_opG {K : PySem.W.Frag} {H : Hp} {a gl c hl : Addr} {g f : Str} {m t m' t' : Int} {G F : List Rw4} (a1 : H c = some (.tup [.str f, .int m', .int t', .ref hl])) (a2 : H hl = some (.lst (rf4 F))) (a3 : R4 H F) (h1 : H a = some (.tup [.str g, .int m, .int t, .ref gl])) (h2 : H gl = some (.lst (rf4 G))) (h3 : R4 H G) (hne : gl ≠ hl) : PB K H (.ref a) (.ref c) (decide (g = f ∧ m = m' ∧ t = t' ∧ G.map (·.2) = F.map (·.2))) := by
 refine ⟨a, c, _, _, fun j => match j with | 0 => decide (g = f) | 1 => decide (m = m') | 2 => decide (t = t') | _ => decide (G.map (·.2) = F.map (·.2)), rfl, rfl, SqT.of h1, SqT.of a1, fun j x y e1 e2 => ?_, ?_⟩
 · rcases j with _ | _ | _ | _ | j
   · cases e1; cases e2
     refine .inl ⟨rfl, rfl, ?_⟩
     show decide (g = f) = (g == f)
     rw [Bool.eq_iff_iff]
     simp
   · cases e1; cases e2
     refine .inl ⟨rfl, rfl, ?_⟩
     show decide (m = m') = (m == m')
     rw [Bool.eq_iff_iff]
     simp
   · cases e1; cases e2
     refine .inl ⟨rfl, rfl, ?_⟩
     show decide (t = t') = (t == t')
     rw [Bool.eq_iff_iff]
     simp
   · cases e1; cases e2
     refine .inr ⟨gl, hl, _, _, _, rfl, rfl, SqL.of h2, SqL.of a2, rows_eqB h3 a3, fun e => absurd e hne, ?_⟩
     show decide _ = _
     rw [lstB_rows]
   · cases e1
 · rw [Bool.eq_iff_iff]
   show _ ↔ ((decide (g = f) && (decide (m = m') && (decide (t = t') && (decide (G.map (·.2) = F.map (·.2)) && true)))) && true) = true
   simp
def spOther : Sp := fun vs H Q _ => ∃ (tl ul : Addr) (f : Str) (c : Int) (D : Dl) (G U : List Pg) (Y W : List Pp), vs = [.str f, .ref tl, .ref ul, .int c] ∧ H tl = some (.lst (rfP Y)) ∧ PaG H G Y ∧ Y.length ≤ 60 ∧ H ul = some (.lst (rfP W)) ∧ PaG H U W ∧ W.length ≤ 60 ∧ f.length ≤ 40 ∧ PI f D G U ∧
 ∀ (v : V) H', Same H H' → (∀ U0 u, U = U0 ++ [u] → HdB H' v u.1 u.2.1 u.2.2.1 u.2.2.2 false) → Q v H'
theorem sc__law_posted : FnScope ["_law_book", "_law_day", "_law_about", "_law_lines_here", "_law_found"] ["_law_book", "_law_day", "_law_about", "_law_lines_here"] (defScope s__law_posted) := ⟨rfl, rfl, rfl, by decide +kernel, rfl, by decide +kernel, by decide +kernel⟩
theorem ok__law_posted (D : Def K mg "_law_posted" s__law_posted .none) {C_Closed C_KeptBook : Addr} (c_KeptBook_post : CalM P w K mg base (CX1 P w) true 4 C_KeptBook "post" ["self", "day", "about", "lines"] [] (spPostE C_KeptBook C_Closed)) (z_list : mg "list" = none) (m_Closed : mg "Closed" = some (.ref C_Closed)) (cl_KeptBook : Cls K C_KeptBook) (q_mC : PySem.W.exmOne K (.ref C_Closed) (.ref C_Closed) = some true) : Cal P w K mg base CX0 true 5 "_law_posted" ["_law_book", "_law_day", "_law_about", "_law_lines_here"] [] (spPosted C_KeptBook) := by
 obtain ⟨f, fd, F, hm⟩ := D
 obtain ⟨f_KeptBook_post, fd_KeptBook_post, d_KeptBook_post, G_KeptBook_post, m_KeptBook_post, b_KeptBook_post, v_KeptBook_post, b_KeptBook_post1⟩ := c_KeptBook_post
 refine ⟨f, fd, _, F.ok sc__law_posted (fun vs H Q E h => ?_) (fun cdv A outer s H vs Q E hr h => ?_), hm, F.kp, (F.binds fun _ _ _ _ _ _ us hl => match us, hl with | [_, _, _, _], _ => rfl), .nil, F.binds fun _ _ _ _ _ _ us hl => match us, hl with | [_, _, _, _], _ => rfl⟩
 · obtain ⟨p, kl, pl, fl, f, xs, es, d, ab, l, L, rfl, R, hf, hk, hes, hl, hL, g, q1, q2⟩ := h
   rfl
 obtain ⟨p, kl, pl, fl, f, xs, es, d, ab, l, L, rfl, R, hf, hk, hes, hl, hL, g, q1, q2⟩ := h
 have nd := sc__law_posted.nd
 refine ⟨_, (pss_cons (ps_tryN rfl rfl rfl m_Closed (fun pn E' R Ek hpo hxe => (pss_one (ps_set (i := 4) nd rfl (Or.inl rfl) (pe_methR (pv 0) cl_KeptBook m_KeptBook_post G_KeptBook_post (hr.mono (by decide)) b_KeptBook_post Paired.nil hxe (pa_cons (pv 1) (pa_cons (pv 2) (pa_cons (pe_callTy call_list_ofI rfl z_list bt_list (pa_cons (pv 3) pa_nil)) pa_nil))))))) (fun _ => (pss_one (ps_ret (pe_un un_neg pe_int)))))
   (pss_one (ps_ret (pv 4)))), ?_⟩
 obtain ⟨dx, fs, hp, hbk, hke, hpa, hin, hno⟩ := R.ob
 refine ⟨_, rfl, p, dx, fs, rfl, hp, hno _ (by decide +kernel), _, rfl, _, rfl, _, rfl, l, _, rfl, .inl (SqL.of hl), fun l2 hl2 => ?_⟩
 have f1 := same_upd (o := .lst (rf5 L)) hl2
 refine ⟨rfl, p, kl, pl, fl, f, xs, es, d, ab, l2, L, rfl, R.same f1, f1 _ _ hf, f1 _ _ hk, hes, upd_same, hL.same f1, g, (fun h e H1 e1 he => ⟨q_mC, fun x hx => ?_⟩), fun hle e t H1 k1 hk1 he ht => ?_⟩
 · exact ⟨_, rfl, q1 h _ ((f1.trans e1).trans (same_upd hx))⟩
 · exact ⟨_, rfl, q2 hle e t _ (fun b o h nb => k1 b o (f1 _ _ h) nb) hk1 he ht⟩
theorem sc__law_opened : FnScope ["_law_book", "_law_paper_here", "_law_found"] ["_law_book", "_law_paper_here"] (defScope s__law_opened) := ⟨rfl, rfl, rfl, by decide +kernel, rfl, by decide +kernel, by decide +kernel⟩
theorem ok__law_opened (D : Def K mg "_law_opened" s__law_opened .none) {C_BadPaper C_KeptBook : Addr} (c_KeptBook_reopen : CalM P w K mg base (CX1 P w) true 3 C_KeptBook "reopen" ["self", "paper"] [] (spReoE C_KeptBook C_BadPaper)) (z_int : mg "int" = none) (m_BadPaper : mg "BadPaper" = some (.ref C_BadPaper)) (cl_KeptBook : Cls K C_KeptBook) (q_mB : PySem.W.exmOne K (.ref C_BadPaper) (.ref C_BadPaper) = some true) : Cal P w K mg base CX0 true 5 "_law_opened" ["_law_book", "_law_paper_here"] [] (spOpened C_KeptBook) := by
 obtain ⟨f, fd, F, hm⟩ := D
 obtain ⟨f_KeptBook_reopen, fd_KeptBook_reopen, d_KeptBook_reopen, G_KeptBook_reopen, m_KeptBook_reopen, b_KeptBook_reopen, v_KeptBook_reopen, b_KeptBook_reopen1⟩ := c_KeptBook_reopen
 refine ⟨f, fd, _, F.ok sc__law_opened (fun vs H Q E h => ?_) (fun cdv A outer s H vs Q E hr h => ?_), hm, F.kp, (F.binds fun _ _ _ _ _ _ us hl => match us, hl with | [_, _], _ => rfl), .nil, F.binds fun _ _ _ _ _ _ us hl => match us, hl with | [_, _], _ => rfl⟩
 · obtain ⟨p, kl, pl, fl, f, v, Z, rfl, R, hfl, hZl, hq⟩ := h
   rfl
 obtain ⟨p, kl, pl, fl, f, v, Z, rfl, R, hfl, hZl, hq⟩ := h
 have nd := sc__law_opened.nd
 refine ⟨_, (pss_cons (ps_tryN rfl rfl rfl m_BadPaper (fun pn E' R Ek hpo hxe => (pss_one (ps_set (i := 2) nd rfl (Or.inl rfl) (pe_methR (pv 0) cl_KeptBook m_KeptBook_reopen G_KeptBook_reopen (hr.mono (by decide)) b_KeptBook_reopen Paired.nil hxe (pa_cons (pv 1) pa_nil))))) (fun _ => (pss_one (ps_ret pe_int))))
   (pss_one (ps_ret (pe_op op_add pe_int (pe_callTy call_int1 rfl z_int bt_int (pa_cons (pe_cmpR op_notN (pv 2) pe_non (nomark _)) pa_nil)))))), ?_⟩
 obtain ⟨dx, fs, hp, hbk, hke, hpa, hin, hno⟩ := R.ob
 refine ⟨_, rfl, p, dx, fs, rfl, hp, hno _ (by decide +kernel), _, rfl, rfl, p, kl, pl, fl, f, v, Z, rfl, R, hfl, hZl, (fun hZ e H1 e1 he => ⟨q_mB, fun x hx => ?_⟩), fun Z0 z hZ => ?_⟩
 · rcases hq with ⟨_, q⟩ | ⟨Z0, z, k, t, hZ2, _⟩
   · exact q _ (e1.trans (same_upd hx))
   · rw [hZ] at hZ2
     exact absurd hZ2.symm (by simp)
 rcases hq with ⟨hh, q⟩ | ⟨Z1, z1, k, t, hZ2, hz, hd, q⟩
 · rcases hh with hh | ⟨Z1, z1, k, t, hZ2, hz, hd⟩
   · rw [hZ] at hh
     exact absurd hh (by simp)
   obtain ⟨hZe, hz1⟩ := List.append_inj' (hZ.symm.trans hZ2) rfl
   cases hz1
   exact ⟨k, t, false, hz, hd, (fun _ e H1 e1 he => ⟨q_mB, fun x hx => q _ (e1.trans (same_upd hx))⟩), fun h => by cases h⟩
 obtain ⟨hZe, hz1⟩ := List.append_inj' (hZ.symm.trans hZ2) rfl
 cases hz1
 subst hZe
 exact ⟨k, t, true, hz, hd, (fun h => by cases h), fun _ H1 k1 hf1 => ⟨_, rfl, rfl, .inr ⟨_, rfl, _, _, rfl, rfl, q _ k1 hf1⟩⟩⟩
theorem sc__law_other : FnScope ["_law_firm", "_law_told", "_law_up", "_law_cell_here", "_law_rows", "_law_month", "_law_turn", "_law_figures_here"] ["_law_firm", "_law_told", "_law_up", "_law_cell_here"] (defScope s__law_other) := ⟨rfl, rfl, rfl, by decide +kernel, rfl, by decide +kernel, by decide +kernel⟩
theorem ok__law_other (D : Def K mg "_law_other" s__law_other .none) (z_len : mg "len" = none) (z_list : mg "list" = none) : Cal P w K mg base CX0 true 1 "_law_other" ["_law_firm", "_law_told", "_law_up", "_law_cell_here"] [] spOther := by
 obtain ⟨f, fd, F, hm⟩ := D
 refine ⟨f, fd, _, F.ok sc__law_other (fun vs H Q E h => ?_) (fun cdv A outer s H vs Q E hr h => ?_), hm, F.kp, (F.binds fun _ _ _ _ _ _ us hl => match us, hl with | [_, _, _, _], _ => rfl), .nil, F.binds fun _ _ _ _ _ _ us hl => match us, hl with | [_, _, _, _], _ => rfl⟩
 · obtain ⟨tl, ul, f, c, D, G, U, Y, W, rfl, htl, hY, hYl, hul, hW, hWl, lf, pi, q⟩ := h
   rfl
 obtain ⟨tl, ul, f, c, D, G, U, Y, W, rfl, htl, hY, hYl, hul, hW, hWl, lf, pi, q⟩ := h
 have nd := sc__law_other.nd
 refine ⟨_, (pss_cons (ps_if (pt_cmpR op_eq (pe_callB call_len_seq rfl z_len bt_len (pa_cons (pv 1) pa_nil)) pe_int (nomark _)) (pss_one (ps_ret (pe_tup (pa_cons (pv 0) (pa_cons pe_int (pa_cons pe_int (pa_cons (pe_lst pa_nil) pa_nil))))))) pss_nil)
   (pss_cons (ps_asg (pe_ix ix_seq (pv 1) (pe_op op_mod (pe_op op_fdiv (pv 3) pe_int) (pe_callB call_len_seq rfl z_len bt_len (pa_cons (pv 1) pa_nil))) (fun _ _ => rfl)) (pg_tup rfl (pgs_cons (pg_name (i := 0) nd rfl (Or.inl rfl)) (pgs_cons (pg_name (i := 5) nd rfl (Or.inl rfl)) (pgs_cons (pg_name (i := 6) nd rfl (Or.inl rfl)) (pgs_cons (pg_name (i := 7) nd rfl (Or.inl rfl)) pgs_nil))))))
   (pss_cons (ps_set (i := 4) nd rfl (Or.inl rfl) (pe_callTy call_list_of rfl z_list bt_list (pa_cons (pv 7) pa_nil)))
   (pss_cons (ps_if (pt_cmpR op_eq (pe_op op_mod (pv 3) pe_int) pe_int (nomark _)) (pss_one (ps_set (i := 5) nd rfl (Or.inl rfl) (pe_op op_add (pv 5) pe_int))) pss_nil)
   (pss_cons (ps_if (pt_cmpR op_eq (pe_op op_mod (pv 3) pe_int) pe_int (nomark _)) (pss_one (ps_set (i := 6) nd rfl (Or.inl rfl) (pe_op op_sub (pv 6) pe_int))) pss_nil)
   (pss_cons (ps_if (pt_cmpR op_eq (pe_op op_mod (pv 3) pe_int) pe_int (nomark _)) (pss_one (ps_expr (pe_bm PySem.F.plainAttrs_list PySem.F.slot_list_append PySem.F.type_list_append mt_append (pv 4) (pa_cons (pe_tup (pa_cons pe_str (pa_cons pe_str (pa_cons pe_int (pa_cons (pe_op op_add pe_int (pe_op op_mod (pe_op op_fdiv (pv 3) pe_int) pe_int)) pa_nil))))) pa_nil)))) pss_nil)
   (pss_cons (ps_if (pt_cmpR op_eq (pe_op op_mod (pv 3) pe_int) pe_int (nomark _)) (pss_one (ps_set (i := 0) nd rfl (Or.inl rfl) (pe_op op_add_str (pv 0) pe_str))) pss_nil)
   (pss_cons (ps_if (PW.pt (pw_and (pt_cmpR op_eq (pe_op op_mod (pv 3) pe_int) pe_int (nomark _)) (pw_and1 (pt_cmpR (op_inK hr) (pe_tup (pa_cons (pv 0) (pa_cons (pv 5) (pa_cons (pv 6) (pa_cons (pv 4) pa_nil))))) (pe_slice sl_list (pv 2) (po_some (pe_op op_sub (pe_callB call_len_seq rfl z_len bt_len (pa_cons (pv 2) pa_nil)) pe_int)) po_none) (by with_unfolding_all rfl))))) (pss_one (ps_set (i := 6) nd rfl (Or.inl rfl) (pe_op op_add (pv 6) pe_int))) pss_nil)
   (pss_one (ps_ret (pe_tup (pa_cons (pv 0) (pa_cons (pv 5) (pa_cons (pv 6) (pa_cons (pv 4) pa_nil))))))))))))))), ?_⟩
 have hline : 600 ≤ sizeLine := by decide
 have yl := rfP_len Y
 have vl := rfP_len W
 refine ⟨_, rfl, tl, _, rfl, .inl (SqL.of htl), rfl, _, rfl, ?_⟩
 refine dec2 (fun h0 => ?_) (fun h0 => ?_)
 · refine ⟨_, rfl, (by show 0 ≤ sizeLine; decide), fun l1 h1 => ⟨(by show 4 ≤ sizeLine; decide), fun n hn => ?_⟩⟩
   have hG0 : G.length = 0 := by
     have := V.int.inj h0
     have := hY.1
     omega
   refine q _ _ ((same_upd h1).trans (same_upd hn)) (fun U0 u hU => ?_)
   have h := pi.u U0.length u (by rw [hU]; exact last_at _ _)
   rw [List.eq_nil_of_length_eq_zero hG0] at h
   cases h.2.2.1
 have hpos : 0 < (rfP Y).length := by
   rcases Nat.eq_zero_or_pos (rfP Y).length with z0 | z0
   · exact absurd (congrArg (fun n : Nat => V.int (n : Int)) z0) h0
   · exact z0
 obtain ⟨j, hj⟩ : ∃ j : Nat, c / 5 % ((rfP Y).length : Int) = (j : Int) := Int.eq_ofNat_of_zero_le (Int.emod_nonneg _ (by omega))
 have hjl := Int.emod_lt_of_pos (c / 5) (show (0 : Int) < ((rfP Y).length : Int) by omega)
 rw [hj] at hjl
 have hG1 := hY.1
 obtain ⟨z, hz⟩ : ∃ z, Y[j]? = some z := ⟨_, List.getElem?_eq_getElem (by omega)⟩
 obtain ⟨g, hg⟩ : ∃ g, G[j]? = some g := ⟨_, List.getElem?_eq_getElem (by omega)⟩
 obtain ⟨pz, gz⟩ := hY.2 j g z hg hz
 obtain ⟨gf, gt⟩ := pi.g j g hg
 have gn := pi.n g (List.mem_of_getElem? hg)
 obtain ⟨f', k, t, F⟩ := g
 dsimp only at gf gt pz gz gn
 rw [gf, gt] at pz
 have zn : z.2.2.length ≤ 60 := by
   rw [← gz] at gn
   unfold gs at gn
   rw [List.length_map] at gn
   exact gn
 have lastu : ∀ U0 u, U = U0 ++ [u] → u.1 = f ∧ u.2.1 = U0.length ∧ 1 ≤ u.2.2.1 ∧ G[u.2.2.1 - 1]? = some u ∧ (∀ (j : Nat) g, u.2.2.1 ≤ j → G[j]? = some g → u.2.1 < g.2.1) := fun U0 u hU => by
   obtain ⟨a1, a2, a3, a4, _⟩ := pi.u U0.length u (by rw [hU]; exact last_at _ _)
   exact ⟨(pi.g _ _ a3).1, a1, a2, a3, by rw [a1]; exact a4⟩
 have sameg : ∀ U0 u, U = U0 ++ [u] → u.2.2.1 = j + 1 → u = (f', k, t, F) := fun U0 u hU hu => by
   obtain ⟨a1, a2, a3, a4, _⟩ := lastu U0 u hU
   rw [hu, Nat.add_sub_cancel, hg] at a4
   exact (Option.some.inj a4).symm
 have hat : atI (rfP Y) (c / 5 % ((rfP Y).length : Int)) = some (.ref z.1) := by
   rw [hj]
   exact atI_nat (by unfold rfP; rw [List.getElem?_map, hz]; rfl)
 refine ⟨_, rfl, _, rfl, _, _, rfl, rfl, ⟨by decide, by decide⟩, _, rfl, tl, _, rfl, .inl (SqL.of htl), _, _, rfl, rfl, (by show (0 : Int) < ((rfP Y).length : Int); omega), .inl ⟨tl, _, _, _, rfl, rfl, SqL.of htl, hat, z.1, _, rfl, SqT.of pz.1, rfl, _, _, rfl, _, _, rfl, _, _, rfl, _, _, rfl, rfl, ?_⟩⟩
 refine ⟨_, rfl, z.2.1, _, rfl, .inl (SqL.of pz.2.1), fun r hr0 => ?_⟩
 have e1 := same_upd (o := .lst (rf4 z.2.2)) hr0
 have hr : upd H r (.lst (rf4 z.2.2)) r = some (.lst (rf4 z.2.2)) := upd_same
 generalize upd H r (.lst (rf4 z.2.2)) = H1 at e1 hr ⊢
 have hR1 := pz.2.2.same e1
 have h5 : c % 5 = 0 ∨ c % 5 = 1 ∨ c % 5 = 2 ∨ c % 5 = 3 ∨ c % 5 = 4 := by omega
 rcases h5 with h5 | h5 | h5 | h5 | h5
 · refine ⟨_, rfl, _, _, rfl, rfl, (by show (0 : Int) < 5; decide), rfl, _, rfl, decT (congrArg V.int h5) ?_⟩
   refine ⟨_, rfl, _, _, rfl, rfl, ?_⟩
   refine ⟨_, rfl, _, _, rfl, rfl, (by show (0 : Int) < 5; decide), rfl, _, rfl, decF (fun h => by have := V.int.inj h; omega) ?_⟩
   refine ⟨_, rfl, _, _, rfl, rfl, (by show (0 : Int) < 5; decide), rfl, _, rfl, decF (fun h => by have := V.int.inj h; omega) ?_⟩
   refine ⟨_, rfl, _, _, rfl, rfl, (by show (0 : Int) < 5; decide), rfl, _, rfl, decF (fun h => by have := V.int.inj h; omega) ?_⟩
   refine ⟨_, rfl, _, _, rfl, rfl, (by show (0 : Int) < 5; decide), rfl, _, rfl, decF (fun h => by have := V.int.inj h; omega) (iteF ?_)⟩
   refine ⟨_, rfl, _, rfl, _, rfl, _, rfl, (by show 4 ≤ sizeLine; decide), fun n hn => ?_⟩
   have fn := same_upd (o := .tup [.str f, .int ((k : Int) + 1), .int (((j + 1 : Nat) : Int)), .ref r]) hn
   exact q _ _ ((e1).trans fn) (fun U0 u hU => hd_no upd_same (fn _ _ (hr)) (R4.same (hR1) fn) (fun h => by
     obtain ⟨a1, a2, a3, a4, a5⟩ := lastu U0 u hU
     have := sameg U0 u hU (by have := h.2.2.1; omega)
     have h2 := h.2.1
     rw [this] at h2
     dsimp only at h2
     omega))
 · refine ⟨_, rfl, _, _, rfl, rfl, (by show (0 : Int) < 5; decide), rfl, _, rfl, decF (fun h => by have := V.int.inj h; omega) ?_⟩
   refine ⟨_, rfl, _, _, rfl, rfl, (by show (0 : Int) < 5; decide), rfl, _, rfl, decT (congrArg V.int h5) ?_⟩
   refine ⟨_, rfl, _, _, rfl, rfl, ?_⟩
   refine ⟨_, rfl, _, _, rfl, rfl, (by show (0 : Int) < 5; decide), rfl, _, rfl, decF (fun h => by have := V.int.inj h; omega) ?_⟩
   refine ⟨_, rfl, _, _, rfl, rfl, (by show (0 : Int) < 5; decide), rfl, _, rfl, decF (fun h => by have := V.int.inj h; omega) ?_⟩
   refine ⟨_, rfl, _, _, rfl, rfl, (by show (0 : Int) < 5; decide), rfl, _, rfl, decF (fun h => by have := V.int.inj h; omega) (iteF ?_)⟩
   refine ⟨_, rfl, _, rfl, _, rfl, _, rfl, (by show 4 ≤ sizeLine; decide), fun n hn => ?_⟩
   have fn := same_upd (o := .tup [.str f, .int (k), .int (((j + 1 : Nat) : Int) - 1), .ref r]) hn
   exact q _ _ ((e1).trans fn) (fun U0 u hU => hd_no upd_same (fn _ _ (hr)) (R4.same (hR1) fn) (fun h => by
     obtain ⟨a1, a2, a3, a4, a5⟩ := lastu U0 u hU
     have b1 := a5 j _ (by have := h.2.2.1; omega) hg
     have h2 := h.2.1
     dsimp only at b1
     omega))
 · refine ⟨_, rfl, _, _, rfl, rfl, (by show (0 : Int) < 5; decide), rfl, _, rfl, decF (fun h => by have := V.int.inj h; omega) ?_⟩
   refine ⟨_, rfl, _, _, rfl, rfl, (by show (0 : Int) < 5; decide), rfl, _, rfl, decF (fun h => by have := V.int.inj h; omega) ?_⟩
   refine ⟨_, rfl, _, _, rfl, rfl, (by show (0 : Int) < 5; decide), rfl, _, rfl, decT (congrArg V.int h5) ?_⟩
   refine ⟨_, rfl, .inl ⟨rfl, _, SqL.of hr⟩, _, rfl, _, _, rfl, rfl, ⟨by decide, by decide⟩, _, _, rfl, rfl, (by show (0 : Int) < 9; decide), _, _, rfl, rfl, (by show 4 ≤ sizeLine; decide), fun n2 hn2 => ?_⟩
   have fn0 := same_upd (o := .tup [.str "cash", .str "one", .int 0, .int (1 + c / 5 % 9)]) hn2
   refine ⟨r, _, _, rfl, rfl, fn0 _ _ hr, (by rw [rf4_len]; omega), ?_⟩
   obtain ⟨nw, hnw⟩ : ∃ nw : Rw4, nw = (n2, (("cash" : Str), ("one" : Str)), (0 : Int), 1 + c / 5 % 9) := ⟨_, rfl⟩
   have hw1 : nw.1 = n2 := by rw [hnw]
   have hw2 : upd H1 n2 (.tup [.str "cash", .str "one", .int 0, .int (1 + c / 5 % 9)]) nw.1 = some (tup4 nw) := by
     rw [hnw]
     exact upd_same
   rw [← hw1] at fn0 ⊢
   rw [← hw1] at hw2
   generalize upd H1 nw.1 (.tup [.str "cash", .str "one", .int 0, .int (1 + c / 5 % 9)]) = H2 at fn0 hw2 ⊢
   have hs1 : Same H (upd H2 r (.lst (rf4 z.2.2 ++ [.ref nw.1]))) := same_set (e1.trans fn0) hr0
   have hs2 : upd H2 r (.lst (rf4 z.2.2 ++ [.ref nw.1])) r = some (.lst (rf4 (z.2.2 ++ [nw]))) := by
     rw [upd_same, rf4_app]
     rfl
   have hs3 : R4 (upd H2 r (.lst (rf4 z.2.2 ++ [.ref nw.1]))) (z.2.2 ++ [nw]) := fun w hw => by
     rcases List.mem_append.mp hw with m | m
     · exact tup_keepL (fn0 _ _ (hR1 w m)) (fn0 _ _ hr)
     · rw [List.mem_singleton.mp m]
       exact tup_keepL hw2 (fn0 _ _ hr)
   generalize upd H2 r (.lst (rf4 z.2.2 ++ [.ref nw.1])) = H3 at hs1 hs2 hs3 ⊢
   refine ⟨_, rfl, _, _, rfl, rfl, (by show (0 : Int) < 5; decide), rfl, _, rfl, decF (fun h => by have := V.int.inj h; omega) ?_⟩
   refine ⟨_, rfl, _, _, rfl, rfl, (by show (0 : Int) < 5; decide), rfl, _, rfl, decF (fun h => by have := V.int.inj h; omega) (iteF ?_)⟩
   refine ⟨_, rfl, _, rfl, _, rfl, _, rfl, (by show 4 ≤ sizeLine; decide), fun n hn => ?_⟩
   have fn := same_upd (o := .tup [.str f, .int (k), .int (((j + 1 : Nat) : Int)), .ref r]) hn
   exact q _ _ ((hs1).trans fn) (fun U0 u hU => hd_no upd_same (fn _ _ (hs2)) (R4.same (hs3) fn) (fun h => by
     obtain ⟨a1, a2, a3, a4, a5⟩ := lastu U0 u hU
     have b1 := sameg U0 u hU (by have := h.2.2.1; omega)
     have h2 := h.2.2.2
     rw [b1] at h2
     have h3 := congrArg List.length h2
     rw [List.length_map, List.length_append] at h3
     have h4 : F.length = z.2.2.length := by rw [← gz]; exact List.length_map ..
     have h5 : z.2.2.length + 1 = F.length := h3
     omega))
 · refine ⟨_, rfl, _, _, rfl, rfl, (by show (0 : Int) < 5; decide), rfl, _, rfl, decF (fun h => by have := V.int.inj h; omega) ?_⟩
   refine ⟨_, rfl, _, _, rfl, rfl, (by show (0 : Int) < 5; decide), rfl, _, rfl, decF (fun h => by have := V.int.inj h; omega) ?_⟩
   refine ⟨_, rfl, _, _, rfl, rfl, (by show (0 : Int) < 5; decide), rfl, _, rfl, decF (fun h => by have := V.int.inj h; omega) ?_⟩
   refine ⟨_, rfl, _, _, rfl, rfl, (by show (0 : Int) < 5; decide), rfl, _, rfl, decT (congrArg V.int h5) ?_⟩
   refine ⟨_, rfl, f, "x", rfl, rfl, (by show f.length + 1 ≤ sizeLine; omega), ?_⟩
   refine ⟨_, rfl, _, _, rfl, rfl, (by show (0 : Int) < 5; decide), rfl, _, rfl, decF (fun h => by have := V.int.inj h; omega) (iteF ?_)⟩
   refine ⟨_, rfl, _, rfl, _, rfl, _, rfl, (by show 4 ≤ sizeLine; decide), fun n hn => ?_⟩
   have fn := same_upd (o := .tup [.str (f ++ "x"), .int (k), .int (((j + 1 : Nat) : Int)), .ref r]) hn
   exact q _ _ ((e1).trans fn) (fun U0 u hU => hd_no upd_same (fn _ _ (hr)) (R4.same (hR1) fn) (fun h => by
     obtain ⟨a1, a2, a3, a4, a5⟩ := lastu U0 u hU
     have h2 := h.1
     rw [a1] at h2
     exact str_x_ne f h2))
 · refine ⟨_, rfl, _, _, rfl, rfl, (by show (0 : Int) < 5; decide), rfl, _, rfl, decF (fun h => by have := V.int.inj h; omega) ?_⟩
   refine ⟨_, rfl, _, _, rfl, rfl, (by show (0 : Int) < 5; decide), rfl, _, rfl, decF (fun h => by have := V.int.inj h; omega) ?_⟩
   refine ⟨_, rfl, _, _, rfl, rfl, (by show (0 : Int) < 5; decide), rfl, _, rfl, decF (fun h => by have := V.int.inj h; omega) ?_⟩
   refine ⟨_, rfl, _, _, rfl, rfl, (by show (0 : Int) < 5; decide), rfl, _, rfl, decF (fun h => by have := V.int.inj h; omega) ?_⟩
   refine ⟨_, rfl, _, _, rfl, rfl, (by show (0 : Int) < 5; decide), rfl, _, rfl, decT (congrArg V.int h5) ?_⟩
   refine ⟨_, rfl, _, rfl, _, rfl, _, rfl, (by show 4 ≤ sizeLine; decide), fun n2 hn2 => ?_⟩
   have fn2 := same_upd (o := .tup [.str f, .int (k : Int), .int ((j + 1 : Nat) : Int), .ref r]) hn2
   have hn22 := upd_same (H := H1) (a := n2) (o := .tup [.str f, .int (k : Int), .int ((j + 1 : Nat) : Int), .ref r])
   generalize upd H1 n2 (.tup [.str f, .int (k : Int), .int ((j + 1 : Nat) : Int), .ref r]) = H2 at fn2 hn22 ⊢
   have e2 := e1.trans fn2
   refine ⟨_, rfl, _, rfl, ul, _, rfl, .inl (SqL.of (e2 _ _ hul)), _, _, rfl, rfl, _, rfl, ul, _, rfl, SqL.of (e2 _ _ hul), fun l3 hl3 => ?_⟩
   have f3 := same_upd (o := .lst (cutV (rfP W) (some (((rfP W).length : Int) - 1)) none)) hl3
   have e3 := e2.trans f3
   have hW1 := hW.1
   rcases List.eq_nil_or_concat W with hWn | ⟨W0, w, hWn⟩
   · have hU0 : U = [] := by
       rw [hWn] at hW1
       exact List.eq_nil_of_length_eq_zero hW1.symm
     refine ⟨l3, _, false, rfl, SqL.of upd_same, .inl ⟨by rw [hWn]; exact cut_nil _ _, rfl⟩, false, rfl, iteF ?_⟩
     refine ⟨_, rfl, _, rfl, _, rfl, _, rfl, (by show 4 ≤ sizeLine; decide), fun n hn => ?_⟩
     have fn := same_upd (o := .tup [.str f, .int (k), .int (((j + 1 : Nat) : Int)), .ref r]) hn
     exact q _ _ ((e3).trans fn) (fun U0 u hU => hd_no upd_same (fn _ _ ((fn2.trans f3) _ _ hr)) (R4.same (hR1.same (fn2.trans f3)) fn) (fun h => by
       obtain ⟨a1, a2, a3, a4, a5⟩ := lastu U0 u hU
       rw [hU0] at hU
       exact absurd hU.symm (by simp)))
   rw [List.concat_eq_append] at hWn
   obtain ⟨Ux, ux, hUx⟩ : ∃ Ux ux, U = Ux ++ [ux] := by
     rcases List.eq_nil_or_concat U with h | ⟨Ux, ux, h⟩
     · rw [h, hWn, List.length_append] at hW1
       exact absurd hW1 (by simp)
     · exact ⟨Ux, ux, by rw [h, List.concat_eq_append]⟩
   have hlen : W0.length = Ux.length := by
     rw [hUx, hWn, List.length_append, List.length_append] at hW1
     have : W0.length + 1 = Ux.length + 1 := hW1
     omega
   obtain ⟨pw, gw⟩ := hW.2 Ux.length ux w (by rw [hUx]; exact last_at _ _) (by rw [hWn, ← hlen]; exact last_at _ _)
   have pw3 := pw.same e3
   have nwr : w.2.1 ≠ r := ne_of_none pw.2.1 hr0
   have nwz : w.1 ≠ n2 := ne_of_none ((e1 _ _ pw.1)) hn2
   have hpb := pp_opG (K := K) ((f3 _ _ hn22)) ((fn2.trans f3) _ _ hr) (hR1.same (fn2.trans f3)) pw3.1 pw3.2.1 pw3.2.2 nwr
   obtain ⟨b, hb⟩ : ∃ b, b = decide (ux.1 = f ∧ (ux.2.1 : Int) = (k : Int) ∧ (ux.2.2.1 : Int) = ((j + 1 : Nat) : Int) ∧ w.2.2.map (·.2) = z.2.2.map (·.2)) := ⟨_, rfl⟩
   rw [← hb] at hpb
   refine ⟨l3, _, b, rfl, SqL.of upd_same, .inr ⟨.ref w.1, (by rw [hWn, rfP_app]; exact cut_last _ _), (fun e => nwz (V.ref.inj e)), hpb⟩, b, rfl, ?_⟩
   generalize upd H2 l3 (.lst (cutV (rfP W) (some (((rfP W).length : Int) - 1)) none)) = H4 at f3 e3 ⊢
   cases b with
   | true =>
     refine iteT ?_
     have hb2 := of_decide_eq_true hb.symm
     refine ⟨_, rfl, _, _, rfl, rfl, ?_⟩
     refine ⟨_, rfl, _, rfl, _, rfl, _, rfl, (by show 4 ≤ sizeLine; decide), fun n hn => ?_⟩
     have fn := same_upd (o := .tup [.str f, .int (k), .int (((j + 1 : Nat) : Int) + 1), .ref r]) hn
     exact q _ _ ((e3).trans fn) (fun U0 u hU => hd_no upd_same (fn _ _ ((fn2.trans f3) _ _ hr)) (R4.same (hR1.same (fn2.trans f3)) fn) (fun h => by
       obtain ⟨a1, a2, a3, a4, a5⟩ := lastu U0 u hU
       have hu : u = ux := by
         have := List.append_inj' (hU.symm.trans hUx) rfl
         have := this.2
         cases this
         rfl
       rw [hu] at h
       have h2 := h.2.2.1
       have h3 := hb2.2.2.1
       omega))
   | false =>
     refine iteF ?_
     have hb2 := of_decide_eq_false hb.symm
     refine ⟨_, rfl, _, rfl, _, rfl, _, rfl, (by show 4 ≤ sizeLine; decide), fun n hn => ?_⟩
     have fn := same_upd (o := .tup [.str f, .int (k), .int (((j + 1 : Nat) : Int)), .ref r]) hn
     exact q _ _ ((e3).trans fn) (fun U0 u hU => hd_no upd_same (fn _ _ ((fn2.trans f3) _ _ hr)) (R4.same (hR1.same (fn2.trans f3)) fn) (fun h => by
       obtain ⟨a1, a2, a3, a4, a5⟩ := lastu U0 u hU
       have hu : u = ux := by
         have := List.append_inj' (hU.symm.trans hUx) rfl
         have := this.2
         cases this
         rfl
       rw [hu] at h
       exact hb2 ⟨h.1.symm, h.2.1.symm, h.2.2.1.symm, by show gs w = _; rw [gw]; exact h.2.2.2.symm⟩))
def SixL (S : List Addr) (H : Hp) : Prop := ∀ b ∈ S, ∃ xs, H b = some (.lst xs)
theorem SixL.tup {S : List Addr} {H : Hp} (s : SixL S H) {b : Addr} {o : List V} (h : H b = some (.tup o)) : b ∉ S := fun m => by
 obtain ⟨xs, e⟩ := s b m
 rw [e] at h
 cases h
theorem SixL.ins {S : List Addr} {H : Hp} (s : SixL S H) {b C dx : Addr} {fs : List (Str × V)} (h : H b = some (.ins C dx fs)) : b ∉ S := fun m => by
 obtain ⟨xs, e⟩ := s b m
 rw [e] at h
 cases h
theorem SixL.fre {S : List Addr} {H : Hp} (s : SixL S H) {b : Addr} (h : H b = none) : b ∉ S := fun m => by
 obtain ⟨xs, e⟩ := s b m
 rw [e] at h
 cases h
theorem mem_app1 {α : Type} {P : α → Prop} {A : List α} {a : α} (h : ∀ z ∈ A, P z) (ha : P a) : ∀ z ∈ A ++ [a], P z := fun z hz => by
 rcases List.mem_append.mp hz with m | m
 · exact h z m
 · rw [List.mem_singleton.mp m]
   exact ha
theorem SixL.cons {S : List Addr} {H : Hp} {a : Addr} {xs : List V} (s : SixL S H) (h : H a = some (.lst xs)) : SixL (a :: S) H := fun b hb => by
 rcases List.mem_cons.mp hb with rfl | m
 · exact ⟨_, h⟩
 · exact s b m
theorem SixL.same {S : List Addr} {H H' : Hp} (s : SixL S H) (e : Same H H') : SixL S H' := fun b hb => by
 obtain ⟨xs, h⟩ := s b hb
 exact ⟨xs, e _ _ h⟩
theorem dl_app (A B : List En) : dl (A ++ B) = dl A ++ dl B := List.map_append ..
theorem dr_app (A B : List Ro) : dr (A ++ B) = dr A ++ dr B := List.map_append ..
theorem Pap.upd {H : Hp} {f : Str} {k t : Nat} {z : Pp} {q : Addr} {xs ys : List V} (h : Pap H f k t z) (hq : H q = some (.lst xs)) (n : z.2.1 ≠ q) : Pap (L2.upd H q (.lst ys)) f k t z :=
 ⟨tup_keepL h.1 hq, by rw [upd_ne n]; exact h.2.1, fun y hy => tup_keepL (h.2.2 y hy) hq⟩
theorem Pap.keep {S : List Addr} {H H' : Hp} {f : Str} {k t : Nat} {z : Pp} (s : SixL S H) (kp : ∀ b o, H b = some o → b ∉ S → H' b = some o) (h : Pap H f k t z) (n : z.2.1 ∉ S) : Pap H' f k t z :=
 ⟨kp _ _ h.1 (s.tup h.1), kp _ _ h.2.1 n, fun y hy => kp _ _ (h.2.2 y hy) (s.tup (h.2.2 y hy))⟩
theorem EnL.keep {S : List Addr} {H H' : Hp} {E : List En} (s : SixL S H) (kp : ∀ b o, H b = some o → b ∉ S → H' b = some o) (h : EnL H E) : EnL H' E := fun e he => by
 obtain ⟨h1, h2, h3, h4⟩ := h e he
 exact ⟨kp _ _ h1 (s.tup h1), kp _ _ h2 (s.tup h2), fun z hz => kp _ _ (h3 z hz) (s.tup (h3 z hz)), h4⟩
theorem PaG.keep {S : List Addr} {H H' : Hp} {G : List Pg} {Z : List Pp} (s : SixL S H) (kp : ∀ b o, H b = some o → b ∉ S → H' b = some o) (h : PaG H G Z) (n : ∀ z ∈ Z, z.2.1 ∉ S) : PaG H' G Z := ⟨h.1, fun i g z a b => ⟨(h.2 i g z a b).1.keep s kp (n z (List.mem_of_getElem? b)), (h.2 i g z a b).2⟩⟩
theorem PaG.init {H : Hp} {G : List Pg} {Z : List Pp} {g : Pg} {z : Pp} (h : PaG H (G ++ [g]) (Z ++ [z])) : PaG H G Z := by
 have hl : Z.length = G.length := by
   have := h.1
   rw [List.length_append, List.length_append] at this
   have h2 : Z.length + 1 = G.length + 1 := this
   omega
 refine ⟨hl, fun i a b ha hb => h.2 i a b ?_ ?_⟩
 · rw [List.getElem?_append_left (List.getElem?_eq_some_iff.mp ha).1]
   exact ha
 · rw [List.getElem?_append_left (List.getElem?_eq_some_iff.mp hb).1]
   exact hb
theorem PaG.last {H : Hp} {G : List Pg} {Z : List Pp} {g : Pg} {z : Pp} (h : PaG H (G ++ [g]) (Z ++ [z])) : Pa H g z := by
 have hl : Z.length = G.length := by
   have := h.1
   rw [List.length_append, List.length_append] at this
   have h2 : Z.length + 1 = G.length + 1 := this
   omega
 exact h.2 G.length g z (last_at _ _) (by rw [← hl]; exact last_at _ _)
abbrev Hl := Addr × Addr × Addr × List Pp × List Pp × List Pg
def rfH (N : List Hl) : List V := N.map fun h => .ref h.1
theorem rfH_len (N : List Hl) : (rfH N).length = N.length := List.length_map ..
theorem rfH_app (A B : List Hl) : rfH (A ++ B) = rfH A ++ rfH B := List.map_append ..
theorem rfH_at {L : List Hl} {i : Nat} {x : V} (h : (rfH L)[i]? = some x) : ∃ z, L[i]? = some z ∧ x = .ref z.1 := ref_at h
def HlO (H : Hp) (h : Hl) : Prop := H h.1 = some (.tup [.ref h.2.1, .ref h.2.2.1]) ∧ H h.2.1 = some (.lst (rfP h.2.2.2.1)) ∧ H h.2.2.1 = some (.lst (rfP h.2.2.2.2.1)) ∧ PaG H h.2.2.2.2.2 h.2.2.2.1 ∧ PaG H h.2.2.2.2.2 h.2.2.2.2.1 ∧ h.2.2.2.1.length ≤ 60
def HlF (H : Hp) (h : Hl) : Prop := H h.2.1 = none ∧ H h.2.2.1 = none ∧ (∀ z ∈ h.2.2.2.1, H z.2.1 = none) ∧ ∀ z ∈ h.2.2.2.2.1, H z.2.1 = none
def HlS (S : List Addr) (h : Hl) : Prop := h.2.1 ∉ S ∧ h.2.2.1 ∉ S ∧ (∀ z ∈ h.2.2.2.1, z.2.1 ∉ S) ∧ ∀ z ∈ h.2.2.2.2.1, z.2.1 ∉ S
theorem HlO.keep {S : List Addr} {H H' : Hp} {h : Hl} (s : SixL S H) (kp : ∀ b o, H b = some o → b ∉ S → H' b = some o) (o : HlO H h) (n : HlS S h) : HlO H' h :=
 ⟨kp _ _ o.1 (s.tup o.1), kp _ _ o.2.1 n.1, kp _ _ o.2.2.1 n.2.1, o.2.2.2.1.keep s kp n.2.2.1, o.2.2.2.2.1.keep s kp n.2.2.2, o.2.2.2.2.2⟩
theorem HlF.s {S : List Addr} {H : Hp} {h : Hl} (s : SixL S H) (f : HlF H h) : HlS S h := ⟨s.fre f.1, s.fre f.2.1, fun z hz => s.fre (f.2.2.1 z hz), fun z hz => s.fre (f.2.2.2 z hz)⟩
def KP (hl : Addr) (H H' : Hp) : Prop := ∀ b o, H b = some o → b ≠ hl → H' b = some o
theorem KP.free {hl b : Addr} {H H' : Hp} {o : HO} (k : KP hl H H') (h : H' hl = some o) (f : H' b = none) : H b = none := by
 cases hb : H b with
 | none => rfl
 | some o2 =>
   by_cases e : b = hl
   · rw [e, h] at f
     cases f
   · rw [k b o2 hb e] at f
     cases f
theorem KP.s {hl : Addr} {H H' : Hp} (k : KP hl H H') : ∀ b o, H b = some o → b ∉ [hl] → H' b = some o := fun b o h n => k b o h (fun e => n (by rw [e]; exact List.mem_singleton.mpr rfl))
theorem look_add {H H1 H4 : Hp} {hl n r cc : Addr} {hs : List V} {N : List Hl} {Y B : List Pp} {G : List Pg} (h0 : H hl = some (.lst hs)) (kp : KP hl H H1) (h1 : H1 hl = some (.lst (hs ++ rfH N))) (hN : ∀ h ∈ N, HlO H1 h ∧ HlF H h) (e : Same H1 H4) (hn : H4 n = some (.tup [.ref r, .ref cc])) (hr : H4 r = some (.lst (rfP Y))) (hc : H4 cc = some (.lst (rfP B))) (hY : PaG H4 G Y) (hB : PaG H4 G B) (ln : Y.length ≤ 60) (r0 : H1 r = none) (c0 : H1 cc = none) (yf : ∀ y ∈ Y, H1 y.2.1 = none) (bf : ∀ y ∈ B, H1 y.2.1 = none) :
   KP hl H (upd H4 hl (.lst (hs ++ rfH N ++ [.ref n]))) ∧ upd H4 hl (.lst (hs ++ rfH N ++ [.ref n])) hl = some (.lst (hs ++ rfH (N ++ [(n, r, cc, Y, B, G)]))) ∧ ∀ h ∈ N ++ [(n, r, cc, Y, B, G)], HlO (upd H4 hl (.lst (hs ++ rfH N ++ [.ref n]))) h ∧ HlF H h := by
 have s4 : SixL [hl] H4 := SixL.cons (fun b hb => nomatch hb) (e _ _ h1)
 have s0 : SixL [hl] H := SixL.cons (fun b hb => nomatch hb) h0
 have k4 : ∀ b o, H4 b = some o → b ∉ [hl] → upd H4 hl (.lst (hs ++ rfH N ++ [.ref n])) b = some o := fun b o h m => by
   rw [upd_ne (fun e => m (by rw [e]; exact List.mem_singleton.mpr rfl))]
   exact h
 have k1 : ∀ b o, H1 b = some o → b ∉ [hl] → upd H4 hl (.lst (hs ++ rfH N ++ [.ref n])) b = some o := fun b o h m => k4 b o (e _ _ h) m
 have s1 : SixL [hl] H1 := SixL.cons (fun b hb => nomatch hb) h1
 have fx : HlF H (n, r, cc, Y, B, G) := ⟨kp.free h1 r0, kp.free h1 c0, fun z hz => kp.free h1 (yf z hz), fun z hz => kp.free h1 (bf z hz)⟩
 refine ⟨fun b o h m => k1 b o (kp b o h m) (fun x => m (List.mem_singleton.mp x)), ?_, fun h hh => ?_⟩
 · rw [upd_same, rfH_app, List.append_assoc]
   rfl
 · rcases List.mem_append.mp hh with m | m
   · exact ⟨(hN h m).1.keep s1 k1 ((hN h m).2.s s0), (hN h m).2⟩
   · rw [List.mem_singleton.mp m]
     have o4 : HlO H4 (n, r, cc, Y, B, G) := ⟨hn, hr, hc, hY, hB, ln⟩
     exact ⟨o4.keep s4 k4 (fx.s s0), fx⟩
def spLook (C : Addr) : Sp := fun vs H Q _ => ∃ (p kl pl fl tl ul hl : Addr) (f : Str) (w : Int) (ZP ZF YT YU : List Pp) (G U : List Pg) (hs : List V), vs = [.ref p, .ref tl, .ref ul, .int w, .ref hl] ∧ KB C H p kl pl fl f ∧ H pl = some (.lst (rfP ZP)) ∧ PaG H G ZP ∧ H fl = some (.lst (rfP ZF)) ∧ PaG H U ZF ∧ H tl = some (.lst (rfP YT)) ∧ PaG H G YT ∧ H ul = some (.lst (rfP YU)) ∧ PaG H U YU ∧ G.length ≤ 60 ∧ U.length ≤ 60 ∧ H hl = some (.lst hs) ∧ hs.length ≤ 200 ∧ hl ∉ [pl, fl, tl, ul] ∧ (∀ z, (z ∈ ZP ∨ z ∈ ZF ∨ z ∈ YT ∨ z ∈ YU) → z.2.1 ≠ hl) ∧
 ∀ (N : List Hl) H', KP hl H H' → H' hl = some (.lst (hs ++ rfH N)) → (∀ h ∈ N, HlO H' h ∧ HlF H h) → N.length ≤ 3 → Q (.bl true) H'
theorem sc__law_look : FnScope ["_law_book", "_law_told", "_law_up", "_law_way", "_law_held", "_law_k", "_law_ask", "_law_due", "_law_found"] ["_law_book", "_law_told", "_law_up", "_law_way", "_law_held"] (defScope s__law_look) := ⟨rfl, rfl, rfl, by decide +kernel, rfl, by decide +kernel, by decide +kernel⟩
theorem ok__law_look (D : Def K mg "_law_look" s__law_look .none) {C_KeptBook : Addr} (c__law_whole : Cal P w K mg base CX0 true 1 "_law_whole" ["_law_found"] [] spWhole) (c_KeptBook_closed : CalM P w K mg base CX0 true 1 C_KeptBook "closed" ["self"] [] (spClo C_KeptBook)) (c_KeptBook_told_papers : CalM P w K mg base CX0 true 2 C_KeptBook "told_papers" ["self"] [] (spToldG C_KeptBook)) (c_KeptBook_standing : CalM P w K mg base CX0 true 2 C_KeptBook "standing" ["self"] [] (spStandG C_KeptBook)) (c__law_papers : Cal P w K mg base CX0 true 3 "_law_papers" ["_law_found", "_law_due"] [] spPapers) (c__law_copies : Cal P w K mg base CX0 true 1 "_law_copies" ["_law_papers_here"] [] spCps) (z_range : mg "range" = none) (z_len : mg "len" = none) (cl_KeptBook : Cls K C_KeptBook) : Cal P w K mg base CX0 true 4 "_law_look" ["_law_book", "_law_told", "_law_up", "_law_way", "_law_held"] [] (spLook C_KeptBook) := by
 obtain ⟨f, fd, F, hm⟩ := D
 obtain ⟨f__law_whole, fd__law_whole, d__law_whole, G__law_whole, m__law_whole, k__law_whole, b__law_whole, v__law_whole, b__law_whole1⟩ := c__law_whole
 obtain ⟨f_KeptBook_closed, fd_KeptBook_closed, d_KeptBook_closed, G_KeptBook_closed, m_KeptBook_closed, b_KeptBook_closed, v_KeptBook_closed, b_KeptBook_closed1⟩ := c_KeptBook_closed
 obtain ⟨f_KeptBook_told_papers, fd_KeptBook_told_papers, d_KeptBook_told_papers, G_KeptBook_told_papers, m_KeptBook_told_papers, b_KeptBook_told_papers, v_KeptBook_told_papers, b_KeptBook_told_papers1⟩ := c_KeptBook_told_papers
 obtain ⟨f_KeptBook_standing, fd_KeptBook_standing, d_KeptBook_standing, G_KeptBook_standing, m_KeptBook_standing, b_KeptBook_standing, v_KeptBook_standing, b_KeptBook_standing1⟩ := c_KeptBook_standing
 obtain ⟨f__law_papers, fd__law_papers, d__law_papers, G__law_papers, m__law_papers, k__law_papers, b__law_papers, v__law_papers, b__law_papers1⟩ := c__law_papers
 obtain ⟨f__law_copies, fd__law_copies, d__law_copies, G__law_copies, m__law_copies, k__law_copies, b__law_copies, v__law_copies, b__law_copies1⟩ := c__law_copies
 refine ⟨f, fd, _, F.ok sc__law_look (fun vs H Q E h => ?_) (fun cdv A outer s H vs Q E hr h => ?_), hm, F.kp, (F.binds fun _ _ _ _ _ _ us hl => match us, hl with | [_, _, _, _, _], _ => rfl), .nil, F.binds fun _ _ _ _ _ _ us hl => match us, hl with | [_, _, _, _, _], _ => rfl⟩
 · obtain ⟨p, kl, pl, fl, tl, ul, hl, f, w, ZP, ZF, YT, YU, G, U, hs, rfl, R, hpl, zp, hfl, zf, htl, yt, hul, yu, hG6, hU6, hhl, hsl, hnot, hfig, q⟩ := h
   rfl
 obtain ⟨p, kl, pl, fl, tl, ul, hl, f, w, ZP, ZF, YT, YU, G, U, hs, rfl, R, hpl, zp, hfl, zf, htl, yt, hul, yu, hG6, hU6, hhl, hsl, hnot, hfig, q⟩ := h
 have nd := sc__law_look.nd
 refine ⟨_, (pss_cons (ps_for PassesOwn.never rfl (pi_range1 rfl z_range (pa_cons pe_int pa_nil)) (pg_name (i := 5) nd rfl (Or.inl rfl)) (pss_cons (ps_set (i := 6) nd rfl (Or.inl rfl) (pe_op op_mod (pe_op op_add (pv 3) (pv 5)) pe_int))
   (pss_cons (ps_if (PW.pt (pw_and (pt_cmpR op_eq (pv 6) pe_int (nomark _)) (pw_and1 (PW.pt (pw_or (pt_not (pt_val (pe_call G__law_whole (hr.mono (by decide)) rfl m__law_whole k__law_whole b__law_whole Paired.nil pass0 (pa_cons (pe_meth0 (pv 0) cl_KeptBook m_KeptBook_closed G_KeptBook_closed (hr.mono (by decide)) b_KeptBook_closed Paired.nil pass0) pa_nil)))) (pw_or1 (pt_cmpR op_ne (pe_meth0 (pv 0) cl_KeptBook m_KeptBook_closed G_KeptBook_closed (hr.mono (by decide)) b_KeptBook_closed Paired.nil pass0) (pe_callB call_len_seq rfl z_len bt_len (pa_cons (pv 2) pa_nil)) (nomark _)))))))) (pss_one (ps_ret pe_bl)) pss_nil)
   (pss_one (ps_if (pt_cmpR op_lt (pv 6) pe_int (nomark _)) (pss_cons (ps_set (i := 7) nd rfl (Or.inl rfl) (pe_ix ix_seq (pe_lst (pa_cons (pv 1) (pa_cons (pv 2) pa_nil))) (pv 6) (fun _ _ => rfl)))
   (pss_cons (ps_set (i := 8) nd rfl (Or.inl rfl) (pe_meth0 (pv 0) cl_KeptBook m_KeptBook_told_papers G_KeptBook_told_papers (hr.mono (by decide)) b_KeptBook_told_papers Paired.nil pass0))
   (pss_cons (ps_if (pt_cmpR op_eq (pv 6) pe_int (nomark _)) (pss_one (ps_set (i := 8) nd rfl (Or.inl rfl) (pe_meth0 (pv 0) cl_KeptBook m_KeptBook_standing G_KeptBook_standing (hr.mono (by decide)) b_KeptBook_standing Paired.nil pass0))) pss_nil)
   (pss_cons (ps_if (pt_not (pt_val (pe_call G__law_papers (hr.mono (by decide)) rfl m__law_papers k__law_papers b__law_papers Paired.nil pass0 (pa_cons (pv 8) (pa_cons (pv 7) pa_nil))))) (pss_one (ps_ret pe_bl)) pss_nil)
   (pss_one (ps_expr (pe_bm PySem.F.plainAttrs_list PySem.F.slot_list_append PySem.F.type_list_append mt_append (pv 4) (pa_cons (pe_tup (pa_cons (pv 8) (pa_cons (pe_call G__law_copies (hr.mono (by decide)) rfl m__law_copies k__law_copies b__law_copies Paired.nil pass0 (pa_cons (pv 7) pa_nil)) pa_nil))) pa_nil)))))))) pss_nil)))))
   (pss_one (ps_ret pe_bl))), ?_⟩
 have hline : 600 ≤ sizeLine := by decide
 have lzp := zp.1
 have lzf := zf.1
 have lyt := yt.1
 have lyu := yu.1
 have s0 : SixL [hl] H := SixL.cons (fun b hb => nomatch hb) hhl
 obtain ⟨n1, n2, n3, n4⟩ : hl ≠ pl ∧ hl ≠ fl ∧ hl ≠ tl ∧ hl ≠ ul := by
   simpa [not_or] using hnot
 have ns : ∀ z, (z ∈ ZP ∨ z ∈ ZF ∨ z ∈ YT ∨ z ∈ YU) → z.2.1 ∉ [hl] := fun z h m => hfig z h (List.mem_singleton.mp m)
 refine ⟨_, rfl, by decide, by decide, ?_⟩
 refine for_range (fun i σ H' => ∃ (o5 o6 o7 o8 : Option V) (N : List Hl), σ = [some (.ref p), some (.ref tl), some (.ref ul), some (.int w), some (.ref hl), o5, o6, o7, o8] ∧ KP hl H H' ∧ H' hl = some (.lst (hs ++ rfH N)) ∧ (∀ h ∈ N, HlO H' h ∧ HlF H h) ∧ N.length ≤ i) ⟨_, _, _, _, [], rfl, (fun b o h _ => h), (by rw [hhl]; simp [rfH]), (fun h hh => nomatch hh), Nat.le_refl _⟩ ?_ ?_
 · rintro i σ H1 hi ⟨o5, o6, o7, o8, N, rfl, kp, hhl1, hN, hNl⟩
   have hi3 : i < 3 := by omega
   have R1 : KB C_KeptBook H1 p kl pl fl f := by
     obtain ⟨dx, fs, hp, r⟩ := R.ob
     exact ⟨dx, fs, kp _ _ hp (fun e => by rw [e, hhl] at hp; cases hp), r⟩
   have pl1 := kp _ _ hpl (Ne.symm n1)
   have fl1 := kp _ _ hfl (Ne.symm n2)
   have tl1 := kp _ _ htl (Ne.symm n3)
   have ul1 := kp _ _ hul (Ne.symm n4)
   have zp1 := zp.keep s0 kp.s (fun z hz => ns z (.inl hz))
   have zf1 := zf.keep s0 kp.s (fun z hz => ns z (.inr (.inl hz)))
   have yt1 := yt.keep s0 kp.s (fun z hz => ns z (.inr (.inr (.inl hz))))
   have yu1 := yu.keep s0 kp.s (fun z hz => ns z (.inr (.inr (.inr hz))))
   refine ⟨_, rfl, _, rfl, _, _, rfl, rfl, _, _, rfl, rfl, (by show (0 : Int) < 3; decide), ?_⟩
   obtain ⟨ak, ha⟩ : ∃ ak : Int, (w + (0 + (i : Int))) % 3 = ak := ⟨_, rfl⟩
   have h3 : ak = 0 ∨ ak = 1 ∨ ak = 2 := by omega
   refine ⟨_, rfl, rfl, _, rfl, ?_⟩
   rcases h3 with rfl | rfl | rfl
   · refine decF (fun h => by have := V.int.inj h; omega) (iteF ?_)
     refine ⟨_, rfl, _, _, rfl, rfl, _, rfl, decT (by omega) ?_⟩
     refine ⟨_, rfl, _, rfl, (by show 2 ≤ sizeLine; decide), fun l2 hl2 => ⟨_, rfl, .inl ⟨l2, _, _, _, rfl, rfl, SqL.of upd_same, (by rw [ha]; rfl), ?_⟩⟩⟩
     have f2 := same_upd (o := .lst [.ref tl, .ref ul]) hl2
     generalize upd H1 l2 (.lst [.ref tl, .ref ul]) = H2 at f2 ⊢
     obtain ⟨dx, fs, hp, hbk, hke, hpa, hin, hno⟩ := (R1.same f2).ob
     refine ⟨_, rfl, p, dx, fs, rfl, hp, hno _ (by decide +kernel), p, kl, pl, fl, f, ZP, G, rfl, R1.same f2, f2 _ _ pl1, zp1.same f2, (by omega), fun r Y2 H3 e3 hr0 hr3 hY3 hYf => ?_⟩
     have e13 := f2.trans e3
     refine ⟨_, rfl, rfl, _, rfl, decF (fun h => by have := V.int.inj h; omega) ?_⟩
     refine ⟨_, rfl, _, rfl, r, tl, Y2, YT, G, rfl, hr3, hY3, (e13 _ _ tl1), (yt1.same e13), (by have := hY3.1; omega), true, rfl, iteF ?_⟩
     refine ⟨_, rfl, .inl ⟨rfl, _, SqL.of (e13 _ _ hhl1)⟩, _, rfl, _, rfl, tl, YT, G, rfl, (e13 _ _ tl1), (yt1.same e13), (by omega), fun cc B H8 e8 hc0 hc hB hBf => ⟨(by show 2 ≤ sizeLine; decide), fun n hn => ?_⟩⟩
     have f9 := same_upd (o := .tup [.ref r, .ref cc]) hn
     have hn9 := upd_same (H := H8) (a := n) (o := .tup [.ref r, .ref cc])
     generalize upd H8 n (.tup [.ref r, .ref cc]) = H9 at f9 hn9 ⊢
     have e89 := e8.trans f9
     have e19 := e13.trans e89
     refine ⟨hl, _, _, rfl, rfl, e19 _ _ hhl1, (by rw [List.length_append, rfH_len]; omega), ?_⟩
     obtain ⟨r1, r2, r3⟩ := look_add hhl kp hhl1 hN e19 hn9 (e89 _ _ hr3) (f9 _ _ hc) (hY3.same e89) (hB.same f9) (by have := hY3.1; omega) (f2.free hr0) (e13.free hc0) (fun y hy => f2.free (hYf y hy)) (fun y hy => e13.free (hBf y hy))
     exact ⟨_, _, _, _, N ++ [_], rfl, r1, r2, r3, by rw [List.length_append]; show N.length + 1 ≤ i + 1; omega⟩
   · refine decF (fun h => by have := V.int.inj h; omega) (iteF ?_)
     refine ⟨_, rfl, _, _, rfl, rfl, _, rfl, decT (by omega) ?_⟩
     refine ⟨_, rfl, _, rfl, (by show 2 ≤ sizeLine; decide), fun l2 hl2 => ⟨_, rfl, .inl ⟨l2, _, _, _, rfl, rfl, SqL.of upd_same, (by rw [ha]; rfl), ?_⟩⟩⟩
     have f2 := same_upd (o := .lst [.ref tl, .ref ul]) hl2
     generalize upd H1 l2 (.lst [.ref tl, .ref ul]) = H2 at f2 ⊢
     obtain ⟨dx, fs, hp, hbk, hke, hpa, hin, hno⟩ := (R1.same f2).ob
     refine ⟨_, rfl, p, dx, fs, rfl, hp, hno _ (by decide +kernel), p, kl, pl, fl, f, ZP, G, rfl, R1.same f2, f2 _ _ pl1, zp1.same f2, (by omega), fun r Y2 H3 e3 hr0 hr3 hY3 hYf => ?_⟩
     have e13 := f2.trans e3
     refine ⟨_, rfl, rfl, _, rfl, decT (congrArg V.int ha) ?_⟩
     refine ⟨_, rfl, p, dx, fs, rfl, (e3 _ _ hp), hno _ (by decide +kernel), p, kl, pl, fl, f, ZF, U, rfl, R1.same e13, e13 _ _ fl1, zf1.same e13, (by omega), fun r' Y4 H4 e4 hr0' hr4 hY4 hYf4 => ?_⟩
     have e14 := e13.trans e4
     refine ⟨_, rfl, _, rfl, r', ul, Y4, YU, U, rfl, hr4, hY4, (e14 _ _ ul1), (yu1.same e14), (by have := hY4.1; omega), true, rfl, iteF ?_⟩
     refine ⟨_, rfl, .inl ⟨rfl, _, SqL.of (e14 _ _ hhl1)⟩, _, rfl, _, rfl, ul, YU, U, rfl, (e14 _ _ ul1), (yu1.same e14), (by omega), fun cc B H8 e8 hc0 hc hB hBf => ⟨(by show 2 ≤ sizeLine; decide), fun n hn => ?_⟩⟩
     have f9 := same_upd (o := .tup [.ref r', .ref cc]) hn
     have hn9 := upd_same (H := H8) (a := n) (o := .tup [.ref r', .ref cc])
     generalize upd H8 n (.tup [.ref r', .ref cc]) = H9 at f9 hn9 ⊢
     have e89 := e8.trans f9
     have e19 := e14.trans e89
     refine ⟨hl, _, _, rfl, rfl, e19 _ _ hhl1, (by rw [List.length_append, rfH_len]; omega), ?_⟩
     obtain ⟨r1, r2, r3⟩ := look_add hhl kp hhl1 hN e19 hn9 (e89 _ _ hr4) (f9 _ _ hc) (hY4.same e89) (hB.same f9) (by have := hY4.1; omega) (e13.free hr0') (e14.free hc0) (fun y hy => e13.free (hYf4 y hy)) (fun y hy => e14.free (hBf y hy))
     exact ⟨_, _, _, _, N ++ [_], rfl, r1, r2, r3, by rw [List.length_append]; show N.length + 1 ≤ i + 1; omega⟩
   · refine decT (congrArg V.int ha) ?_
     obtain ⟨dx, fs, hp, hbk, hke, hpa, hin, hno⟩ := R1.ob
     refine ⟨_, rfl, p, dx, fs, rfl, hp, hno _ (by decide +kernel), p, kl, pl, fl, f, _, rfl, R1, fl1, _, rfl, true, rfl, iteF ?_⟩
     refine ⟨_, rfl, p, dx, fs, rfl, hp, hno _ (by decide +kernel), p, kl, pl, fl, f, _, rfl, R1, fl1, _, rfl, ul, _, rfl, .inl (SqL.of ul1), rfl, _, rfl, ndecF (congrArg V.int (by rw [rfP_len, rfP_len]; omega)) ?_⟩
     refine ⟨_, rfl, _, _, rfl, rfl, _, rfl, decF (by omega) ?_⟩
     exact ⟨_, _, _, _, N, rfl, kp, hhl1, hN, by omega⟩
 rintro σ H1 ⟨o5, o6, o7, o8, N, rfl, kp, hhl1, hN, hNl⟩
 exact q N _ kp hhl1 hN hNl
structure Ad where
 p : Addr
 kl : Addr
 pl : Addr
 fl : Addr
 rl : Addr
 tl : Addr
 ul : Addr
 f : Str
structure Ct where
 E : List En
 R : List Ro
 G : List Pg
 U : List Pg
 ZP : List Pp
 ZF : List Pp
 YT : List Pp
 YU : List Pp
def six (a : Ad) : List Addr := [a.kl, a.pl, a.fl, a.rl, a.tl, a.ul]
theorem six_ne {a : Ad} (h : (six a).Nodup) : (a.kl ≠ a.pl ∧ a.kl ≠ a.fl ∧ a.kl ≠ a.rl ∧ a.kl ≠ a.tl ∧ a.kl ≠ a.ul) ∧ (a.pl ≠ a.fl ∧ a.pl ≠ a.rl ∧ a.pl ≠ a.tl ∧ a.pl ≠ a.ul) ∧ (a.fl ≠ a.rl ∧ a.fl ≠ a.tl ∧ a.fl ≠ a.ul) ∧ (a.rl ≠ a.tl ∧ a.rl ≠ a.ul) ∧ a.tl ≠ a.ul := by
 simpa [six, not_or] using h
theorem six_not {a : Ad} {b : Addr} (h : b ∉ six a) : b ≠ a.kl ∧ b ≠ a.pl ∧ b ≠ a.fl ∧ b ≠ a.rl ∧ b ≠ a.tl ∧ b ≠ a.ul := by
 simpa [six, not_or] using h
theorem fig_klen {P g : List Pr} (h : Fig P g) : g.length ≤ (kys P).length := by
 obtain ⟨ks, p, w, rfl⟩ := h
 unfold fg
 rw [List.length_map, ← p.length_eq]
 exact List.length_filter_le _ _
theorem upto_app (D : Dl) (d : Int × List Ln) (m : Int) : upto (D ++ [d]) m = upto D m ++ (if d.1 / 30 ≤ m then d.2 else []) := by
 unfold upto
 rw [List.flatMap_append]
 simp
theorem ak_upto {x y z : Str} {D : Dl} (h : ∀ d ∈ D, ∀ v ∈ d.2, v.2.2.1 ∈ AK x y z) (m : Int) : (kys ((upto D m).map (·.2.2))).length ≤ 60 := by
 refine kys_ak (x := x) (y := y) (z := z) fun p hp => ?_
 obtain ⟨v, hv, rfl⟩ := List.mem_map.mp hp
 unfold upto at hv
 obtain ⟨d, hd, hv⟩ := List.mem_flatMap.mp hv
 split at hv
 · exact h d hd v hv
 · cases hv
theorem ak_mon {x y z : Str} {D : Dl} (h : ∀ d ∈ D, ∀ v ∈ d.2, v.2.2.1 ∈ AK x y z) (m : Int) : (kys (pr5 (mon D m))).length ≤ 60 := by
 refine kys_ak (x := x) (y := y) (z := z) fun p hp => ?_
 obtain ⟨v, hv, rfl⟩ := List.mem_map.mp hp
 unfold mon at hv
 obtain ⟨d, hd, hv⟩ := List.mem_flatMap.mp hv
 split at hv
 · exact h d hd v hv
 · cases hv
theorem PI.post {f : Str} {D : Dl} {G U : List Pg} {d : Int × List Ln} (h : PI f D G U) (hd : (U.length : Int) ≤ d.1 / 30) : PI f (D ++ [d]) G U := by
 refine ⟨h.g, h.n, fun i u hu => ?_⟩
 obtain ⟨a1, a2, a3, a4, a5⟩ := h.u i u hu
 have hi := (List.getElem?_eq_some_iff.mp hu).1
 refine ⟨a1, a2, a3, a4, ?_⟩
 rw [upto_app, if_neg (by omega), List.append_nil]
 exact a5
theorem PI.init {f : Str} {D : Dl} {G U : List Pg} {u : Pg} (h : PI f D G (U ++ [u])) : PI f D G U := ⟨h.g, h.n, fun i v hv => h.u i v (by
 rw [List.getElem?_append_left (List.getElem?_eq_some_iff.mp hv).1]
 exact hv)⟩
theorem PI.close {f : Str} {D : Dl} {G U : List Pg} {F : List Pr} (h : PI f D G U) (hn : F.length ≤ 60) (hF : Fig ((upto D U.length).map (·.2.2)) F) : PI f D (G ++ [(f, U.length, G.length + 1, F)]) (U ++ [(f, U.length, G.length + 1, F)]) := by
 refine ⟨fun j g hg => ?_, fun g hg => ?_, fun i u hu => ?_⟩
 · rcases Nat.lt_trichotomy j G.length with l | l | l
   · rw [List.getElem?_append_left l] at hg
     exact h.g j g hg
   · rw [l, last_at] at hg
     rw [← Option.some.inj hg, l]
     exact ⟨rfl, rfl⟩
   · rw [List.getElem?_eq_none (by rw [List.length_append]; show G.length + 1 ≤ j; omega)] at hg
     cases hg
 · rcases List.mem_append.mp hg with m | m
   · exact h.n g m
   · rw [List.mem_singleton.mp m]
     exact hn
 · rcases Nat.lt_trichotomy i U.length with l | l | l
   · rw [List.getElem?_append_left l] at hu
     obtain ⟨a1, a2, a3, a4, a5⟩ := h.u i u hu
     have ht := (List.getElem?_eq_some_iff.mp a3).1
     refine ⟨a1, a2, by rw [List.getElem?_append_left ht]; exact a3, fun j g hj hg => ?_, a5⟩
     rcases Nat.lt_trichotomy j G.length with m | m | m
     · rw [List.getElem?_append_left m] at hg
       exact a4 j g hj hg
     · rw [m, last_at] at hg
       rw [← Option.some.inj hg]
       exact l
     · rw [List.getElem?_eq_none (by rw [List.length_append]; show G.length + 1 ≤ j; omega)] at hg
       cases hg
   · rw [l, last_at] at hu
     rw [← Option.some.inj hu, l]
     refine ⟨rfl, Nat.succ_le_succ (Nat.zero_le _), last_at _ _, fun j g hj hg => ?_, hF⟩
     rw [List.getElem?_eq_none (by rw [List.length_append]; exact hj)] at hg
     cases hg
   · rw [List.getElem?_eq_none (by rw [List.length_append]; show U.length + 1 ≤ i; omega)] at hu
     cases hu
structure BkO (C : Addr) (S : List Addr) (x y z : Str) (H : Hp) (a : Ad) (c : Ct) : Prop where
 kb : KB C H a.p a.kl a.pl a.fl a.f
 en : EnL H c.E
 ro : RoL H c.R
 rs : ∀ e ∈ c.R, e.2.2.1 ∉ S
 eq : dl c.E = dr c.R
 dy : ∀ d ∈ dl c.E, 0 ≤ d.1
 ak : ∀ d ∈ dl c.E, ∀ v ∈ d.2, v.2.2.1 ∈ AK x y z
 zp : PaG H c.G c.ZP
 zf : PaG H c.U c.ZF
 yt : PaG H c.G c.YT
 yu : PaG H c.U c.YU
 ns : ∀ w : Pp, (w ∈ c.ZP ∨ w ∈ c.ZF ∨ w ∈ c.YT ∨ w ∈ c.YU) → w.2.1 ∉ S
 pi : PI a.f (dl c.E) c.G c.U
theorem BkO.keep {C : Addr} {S : List Addr} {x y z : Str} {H H' : Hp} {a : Ad} {c : Ct} (s : SixL S H) (kp : ∀ b o, H b = some o → b ∉ S → H' b = some o) (d : BkO C S x y z H a c) : BkO C S x y z H' a c where
 kb := by
   obtain ⟨dx, fs, hp, r⟩ := d.kb.ob
   exact ⟨dx, fs, kp _ _ hp (s.ins hp), r⟩
 en := d.en.keep s kp
 ro := fun e he => by
   obtain ⟨h1, h2, h3, h4⟩ := d.ro e he
   exact ⟨kp _ _ h1 (s.tup h1), kp _ _ h2 (d.rs e he), fun w hw => kp _ _ (h3 w hw) (s.tup (h3 w hw)), h4⟩
 rs := d.rs
 eq := d.eq
 dy := d.dy
 ak := d.ak
 zp := d.zp.keep s kp fun w hw => d.ns w (.inl hw)
 zf := d.zf.keep s kp fun w hw => d.ns w (.inr (.inl hw))
 yt := d.yt.keep s kp fun w hw => d.ns w (.inr (.inr (.inl hw)))
 yu := d.yu.keep s kp fun w hw => d.ns w (.inr (.inr (.inr hw)))
 ns := d.ns
 pi := d.pi
theorem BkO.same {C : Addr} {S : List Addr} {x y z : Str} {H H' : Hp} {a : Ad} {c : Ct} (d : BkO C S x y z H a c) (s : SixL S H) (e : Same H H') : BkO C S x y z H' a c := d.keep s fun b o h _ => e b o h
structure BkL (H : Hp) (a : Ad) (c : Ct) : Prop where
 k : H a.kl = some (.lst (rfE c.E))
 p : H a.pl = some (.lst (rfP c.ZP))
 f : H a.fl = some (.lst (rfP c.ZF))
 r : H a.rl = some (.lst (rfO c.R))
 t : H a.tl = some (.lst (rfP c.YT))
 u : H a.ul = some (.lst (rfP c.YU))
theorem BkL.same {H H' : Hp} {a : Ad} {c : Ct} (l : BkL H a c) (e : Same H H') : BkL H' a c := ⟨e _ _ l.k, e _ _ l.p, e _ _ l.f, e _ _ l.r, e _ _ l.t, e _ _ l.u⟩
def spStep (C : Addr) : Sp := fun vs H Q _ => ∃ (a : Ad) (c : Ct) (S : List Addr) (nl st cs : Addr) (x y z : Str) (c0 c1 c2 : Int), vs = [.ref a.p, .ref nl, .ref st, .ref cs] ∧ SixL S H ∧ (∀ b ∈ six a, b ∈ S) ∧ (six a).Nodup ∧ BkO C S x y z H a c ∧ BkL H a c ∧ c.E.length ≤ 19 ∧ c.G.length ≤ 19 ∧ c.U.length ≤ 19 ∧ H nl = some (.lst [.str x, .str y, .str z]) ∧ nl ∉ S ∧ x.length ≤ 40 ∧ y.length ≤ 40 ∧ z.length ≤ 40 ∧ a.f.length ≤ 40 ∧ H st = some (.tup [.str a.f, .ref a.rl, .ref a.tl, .ref a.ul]) ∧ H cs = some (.lst [.int c0, .int c1, .int c2]) ∧ cs ∉ S ∧
 ∀ (c' : Ct) H', (∀ b o, H b = some o → b ∉ six a → H' b = some o) → BkO C S x y z H' a c' → BkL H' a c' → c'.E.length ≤ c.E.length + 1 → c'.G.length ≤ c.G.length + 1 → c'.U.length ≤ c.U.length + 1 → Q (.bl true) H'
theorem sc__law_step : FnScope ["_law_book", "_law_names_here", "_law_state", "_law_cells", "_law_way", "_law_firm", "_law_rows", "_law_told", "_law_up", "_law_day", "_law_lines_here", "_law_due", "_law_found"] ["_law_book", "_law_names_here", "_law_state", "_law_cells"] (defScope s__law_step) := ⟨rfl, rfl, rfl, by decide +kernel, rfl, by decide +kernel, by decide +kernel⟩
theorem ok__law_step (D : Def K mg "_law_step" s__law_step .none) {C_KeptBook : Addr} (c__law_lines : Cal P w K mg base CX0 true 2 "_law_lines" ["_law_firm", "_law_names_here", "_law_what", "_law_cell_here"] [] spLns) (c__law_posted : Cal P w K mg base CX0 true 5 "_law_posted" ["_law_book", "_law_day", "_law_about", "_law_lines_here"] [] (spPosted C_KeptBook)) (c__law_whole : Cal P w K mg base CX0 true 1 "_law_whole" ["_law_found"] [] spWhole) (c__law_upto : Cal P w K mg base CX0 true 2 "_law_upto" ["_law_rows", "_law_month"] [] spUL) (c__law_paper : Cal P w K mg base CX0 true 2 "_law_paper" ["_law_found", "_law_due"] [] spPaper) (c_KeptBook_close : CalM P w K mg base CX0 true 5 C_KeptBook "close" ["self"] [] (spClose C_KeptBook)) (c__law_opened : Cal P w K mg base CX0 true 5 "_law_opened" ["_law_book", "_law_paper_here"] [] (spOpened C_KeptBook)) (c__law_copies : Cal P w K mg base CX0 true 1 "_law_copies" ["_law_papers_here"] [] spCps) (c__law_other : Cal P w K mg base CX0 true 1 "_law_other" ["_law_firm", "_law_told", "_law_up", "_law_cell_here"] [] spOther) (z_max : mg "max" = none) (z_len : mg "len" = none) (cl_KeptBook : Cls K C_KeptBook) : Cal P w K mg base CX0 true 6 "_law_step" ["_law_book", "_law_names_here", "_law_state", "_law_cells"] [] (spStep C_KeptBook) := by
 obtain ⟨f, fd, F, hm⟩ := D
 obtain ⟨f__law_lines, fd__law_lines, d__law_lines, G__law_lines, m__law_lines, k__law_lines, b__law_lines, v__law_lines, b__law_lines1⟩ := c__law_lines
 obtain ⟨f__law_posted, fd__law_posted, d__law_posted, G__law_posted, m__law_posted, k__law_posted, b__law_posted, v__law_posted, b__law_posted1⟩ := c__law_posted
 obtain ⟨f__law_whole, fd__law_whole, d__law_whole, G__law_whole, m__law_whole, k__law_whole, b__law_whole, v__law_whole, b__law_whole1⟩ := c__law_whole
 obtain ⟨f__law_upto, fd__law_upto, d__law_upto, G__law_upto, m__law_upto, k__law_upto, b__law_upto, v__law_upto, b__law_upto1⟩ := c__law_upto
 obtain ⟨f__law_paper, fd__law_paper, d__law_paper, G__law_paper, m__law_paper, k__law_paper, b__law_paper, v__law_paper, b__law_paper1⟩ := c__law_paper
 obtain ⟨f_KeptBook_close, fd_KeptBook_close, d_KeptBook_close, G_KeptBook_close, m_KeptBook_close, b_KeptBook_close, v_KeptBook_close, b_KeptBook_close1⟩ := c_KeptBook_close
 obtain ⟨f__law_opened, fd__law_opened, d__law_opened, G__law_opened, m__law_opened, k__law_opened, b__law_opened, v__law_opened, b__law_opened1⟩ := c__law_opened
 obtain ⟨f__law_copies, fd__law_copies, d__law_copies, G__law_copies, m__law_copies, k__law_copies, b__law_copies, v__law_copies, b__law_copies1⟩ := c__law_copies
 obtain ⟨f__law_other, fd__law_other, d__law_other, G__law_other, m__law_other, k__law_other, b__law_other, v__law_other, b__law_other1⟩ := c__law_other
 refine ⟨f, fd, _, F.ok sc__law_step (fun vs H Q E h => ?_) (fun cdv A outer s H vs Q E hr h => ?_), hm, F.kp, (F.binds fun _ _ _ _ _ _ us hl => match us, hl with | [_, _, _, _], _ => rfl), .nil, F.binds fun _ _ _ _ _ _ us hl => match us, hl with | [_, _, _, _], _ => rfl⟩
 · obtain ⟨a, c, S, nl, st, cs, x, y, z, c0, c1, c2, rfl, s, hsub, nod, B, l, lE, lG, lU, hn, nnS, lx, ly, lz, lf, hst, hcs, csS, q⟩ := h
   rfl
 obtain ⟨a, c, S, nl, st, cs, x, y, z, c0, c1, c2, rfl, s, hsub, nod, B, l, lE, lG, lU, hn, nnS, lx, ly, lz, lf, hst, hcs, csS, q⟩ := h
 have nd := sc__law_step.nd
 refine ⟨_, (pss_cons (ps_asg (pv 2) (pg_tup rfl (pgs_cons (pg_name (i := 5) nd rfl (Or.inl rfl)) (pgs_cons (pg_name (i := 6) nd rfl (Or.inl rfl)) (pgs_cons (pg_name (i := 7) nd rfl (Or.inl rfl)) (pgs_cons (pg_name (i := 8) nd rfl (Or.inl rfl)) pgs_nil))))))
   (pss_cons (ps_set (i := 4) nd rfl (Or.inl rfl) (pe_op op_mod (pe_op op_fdiv (pe_ix ix_seq (pv 3) pe_int (fun _ _ => rfl)) pe_int) pe_int))
   (pss_cons (ps_if (pt_cmpR op_lt (pv 4) pe_int (nomark _)) (pss_cons (ps_set (i := 9) nd rfl (Or.inl rfl) (pe_callB (call_max2 rfl) rfl z_max bt_max (pa_cons pe_int (pa_cons (pe_op op_sub (pe_op op_add (pe_op op_mulB pe_int (pe_callB call_len_seq rfl z_len bt_len (pa_cons (pv 8) pa_nil))) (pe_op op_mod (pe_ix ix_seq (pv 3) pe_int (fun _ _ => rfl)) pe_int)) pe_int) pa_nil))))
   (pss_cons (ps_set (i := 10) nd rfl (Or.inl rfl) (pe_call G__law_lines (hr.mono (by decide)) rfl m__law_lines k__law_lines b__law_lines Paired.nil pass0 (pa_cons (pv 5) (pa_cons (pv 1) (pa_cons (pe_op op_fdiv (pe_ix ix_seq (pv 3) pe_int (fun _ _ => rfl)) pe_int) (pa_cons (pe_ix ix_seq (pv 3) pe_int (fun _ _ => rfl)) pa_nil))))))
   (pss_cons (ps_set (i := 11) nd rfl (Or.inl rfl) (pe_callB call_len_seq rfl z_len bt_len (pa_cons (pv 6) pa_nil)))
   (pss_cons (ps_if (pt_cmpR op_lt (pe_op op_fdiv (pv 9) pe_int) (pe_callB call_len_seq rfl z_len bt_len (pa_cons (pv 8) pa_nil)) (nomark _)) (pss_one (ps_set (i := 11) nd rfl (Or.inl rfl) (pe_un un_neg pe_int))) pss_nil)
   (pss_cons (ps_set (i := 12) nd rfl (Or.inl rfl) (pe_call G__law_posted (hr.mono (by decide)) rfl m__law_posted k__law_posted b__law_posted Paired.nil pass0 (pa_cons (pv 0) (pa_cons (pv 9) (pa_cons (pe_op op_add (pe_callB call_len_seq rfl z_len bt_len (pa_cons (pv 7) pa_nil)) pe_int) (pa_cons (pv 10) pa_nil))))))
   (pss_cons (ps_if (pt_cmpR op_ge (pv 11) pe_int (nomark _)) (pss_one (ps_expr (pe_bm PySem.F.plainAttrs_list PySem.F.slot_list_append PySem.F.type_list_append mt_append (pv 6) (pa_cons (pe_tup (pa_cons (pv 9) (pa_cons (pv 10) pa_nil))) pa_nil)))) pss_nil)
   (pss_one (ps_ret (pe_and (pe_call G__law_whole (hr.mono (by decide)) rfl m__law_whole k__law_whole b__law_whole Paired.nil pass0 (pa_cons (pv 12) pa_nil)) (pe_one (pe_cmpR op_eq (pv 12) (pv 11) (nomark _)))))))))))) pss_nil)
   (pss_cons (ps_if (pt_cmpR op_eq (pv 4) pe_int (nomark _)) (pss_cons (ps_set (i := 11) nd rfl (Or.inl rfl) (pe_tup (pa_cons (pv 5) (pa_cons (pe_callB call_len_seq rfl z_len bt_len (pa_cons (pv 8) pa_nil)) (pa_cons (pe_op op_add (pe_callB call_len_seq rfl z_len bt_len (pa_cons (pv 7) pa_nil)) pe_int) (pa_cons (pe_call G__law_upto (hr.mono (by decide)) rfl m__law_upto k__law_upto b__law_upto Paired.nil pass0 (pa_cons (pv 6) (pa_cons (pe_callB call_len_seq rfl z_len bt_len (pa_cons (pv 8) pa_nil)) pa_nil))) pa_nil))))))
   (pss_cons (ps_expr (pe_bm PySem.F.plainAttrs_list PySem.F.slot_list_append PySem.F.type_list_append mt_append (pv 7) (pa_cons (pv 11) pa_nil)))
   (pss_cons (ps_expr (pe_bm PySem.F.plainAttrs_list PySem.F.slot_list_append PySem.F.type_list_append mt_append (pv 8) (pa_cons (pv 11) pa_nil)))
   (pss_one (ps_ret (pe_call G__law_paper (hr.mono (by decide)) rfl m__law_paper k__law_paper b__law_paper Paired.nil pass0 (pa_cons (pe_meth0 (pv 0) cl_KeptBook m_KeptBook_close G_KeptBook_close (hr.mono (by decide)) b_KeptBook_close Paired.nil pass0) (pa_cons (pv 11) pa_nil)))))))) pss_nil)
   (pss_cons (ps_if (PW.pt (pw_and (pt_cmpR op_eq (pv 4) pe_int (nomark _)) (pw_and1 (pt_cmpR op_gt (pe_callB call_len_seq rfl z_len bt_len (pa_cons (pv 8) pa_nil)) pe_int (nomark _))))) (pss_one (ps_ret (pe_cmpR op_eq (pe_call G__law_opened (hr.mono (by decide)) rfl m__law_opened k__law_opened b__law_opened Paired.nil pass0 (pa_cons (pv 0) (pa_cons (pe_ix ix_seq (pe_call G__law_copies (hr.mono (by decide)) rfl m__law_copies k__law_copies b__law_copies Paired.nil pass0 (pa_cons (pe_lst (pa_cons (pe_bm0 PySem.F.plainAttrs_list PySem.F.slot_list_pop PySem.F.type_list_pop mt_pop (pv 8)) pa_nil)) pa_nil)) pe_int (fun _ _ => rfl)) pa_nil))) pe_int (nomark _)))) pss_nil)
   (pss_one (ps_ret (pe_cmpR op_eq (pe_call G__law_opened (hr.mono (by decide)) rfl m__law_opened k__law_opened b__law_opened Paired.nil pass0 (pa_cons (pv 0) (pa_cons (pe_call G__law_other (hr.mono (by decide)) rfl m__law_other k__law_other b__law_other Paired.nil pass0 (pa_cons (pv 5) (pa_cons (pv 7) (pa_cons (pv 8) (pa_cons (pe_ix ix_seq (pv 3) pe_int (fun _ _ => rfl)) pa_nil))))) pa_nil))) pe_int (nomark _))))))))), ?_⟩
 have hline : 600 ≤ sizeLine := by decide
 obtain ⟨n1, n2, n3, n4, n5⟩ := six_ne nod
 have yul : (rfP c.YU).length = c.U.length := by rw [rfP_len, B.yu.1]
 have ytl : (rfP c.YT).length = c.G.length := by rw [rfP_len, B.yt.1]
 have zpl : (rfP c.ZP).length = c.G.length := by rw [rfP_len, B.zp.1]
 have zfl : c.ZF.length = c.U.length := B.zf.1
 have zfl2 := rfP_len c.ZF
 have kl_ := rfE_len c.E
 have rl_ := rfO_len c.R
 have rE : c.R.length = c.E.length := by
   have := congrArg List.length B.eq
   unfold dl dr at this
   rw [List.length_map, List.length_map] at this
   exact this.symm
 refine ⟨_, rfl, st, _, rfl, SqT.of hst, rfl, _, _, rfl, _, _, rfl, _, _, rfl, _, _, rfl, rfl, ?_⟩
 refine ⟨_, rfl, .inl ⟨cs, _, 0, _, rfl, rfl, SqL.of hcs, rfl, _, _, rfl, rfl, ⟨by decide, by decide⟩, _, _, rfl, rfl, (by show (0 : Int) < 6; decide), ?_⟩⟩
 refine ⟨_, rfl, _, _, rfl, rfl, _, rfl, ?_⟩
 refine dec2 (fun hw => ?_) (fun hw => ?_)
 · refine ⟨_, rfl, a.ul, _, rfl, .inl (SqL.of l.u), _, _, rfl, rfl, mul_of (by omega) (by omega) (by omega) (by omega), _, rfl, .inl ⟨cs, _, 1, _, rfl, rfl, SqL.of hcs, rfl, _, _, rfl, rfl, (by show (0 : Int) < 75; decide), _, _, rfl, rfl, _, _, rfl, rfl, _, _, rfl, ?_⟩⟩
   obtain ⟨d, hd, hd0⟩ : ∃ d : Int, (if 30 * ((rfP c.YU).length : Int) + c1 % 75 - 15 > 0 then 30 * ((rfP c.YU).length : Int) + c1 % 75 - 15 else 0) = d ∧ 0 ≤ d := ⟨_, rfl, by split <;> omega⟩
   dsimp only
   rw [hd]
   refine ⟨_, rfl, _, rfl, _, rfl, .inl ⟨cs, _, 1, _, rfl, rfl, SqL.of hcs, rfl, _, _, rfl, rfl, ⟨by decide, by decide⟩, _, rfl, .inl ⟨cs, _, 2, _, rfl, rfl, SqL.of hcs, rfl, nl, a.f, x, y, z, _, _, rfl, hn, lx, ly, lz, fun ll L H1 e1 hl0 hl hL g hak => ?_⟩⟩⟩
   have B1 := B.same s e1
   have l1 := l.same e1
   have llS := s.fre hl0
   refine ⟨_, rfl, a.rl, _, rfl, .inl (SqL.of l1.r), ?_⟩
   refine ⟨_, rfl, _, _, rfl, rfl, ⟨by decide, by decide⟩, _, rfl, a.ul, _, rfl, .inl (SqL.of l1.u), _, _, rfl, rfl, _, rfl, ?_⟩
   refine dec2 (fun hlt => ?_) (fun hlt => ?_)
   · refine ⟨_, rfl, ?_⟩
     refine ⟨_, rfl, _, rfl, _, rfl, a.tl, _, rfl, .inl (SqL.of l1.t), _, _, rfl, rfl, _, rfl, a.p, a.kl, a.pl, a.fl, a.f, _, _, d, _, ll, L, rfl, B1.kb, l1.f, l1.k, (by omega), hl, hL, g, (fun h H2 e2 => ?_), fun h => absurd hlt (by omega)⟩
     refine ⟨_, rfl, _, _, rfl, rfl, _, rfl, decF (by decide) ?_⟩
     refine ⟨_, rfl, _, rfl, true, rfl, iteT ?_⟩
     refine ⟨_, rfl, _, rfl, rfl, ?_⟩
     rw [decide_eq_true rfl]
     exact q c _ (fun b o h _ => e2 _ _ (e1 _ _ h)) (B1.same (s.same e1) e2) (l1.same e2) (by omega) (by omega) (by omega)
   refine ⟨_, rfl, _, rfl, _, rfl, a.tl, _, rfl, .inl (SqL.of l1.t), _, _, rfl, rfl, _, rfl, a.p, a.kl, a.pl, a.fl, a.f, _, _, d, _, ll, L, rfl, B1.kb, l1.f, l1.k, (by omega), hl, hL, g, (fun h => absurd h (by omega)), fun h e t H2 k2 hk2 he2 ht2 => ?_⟩
   have k2S : ∀ b o, H1 b = some o → b ∉ S → H2 b = some o := fun b o h n => k2 b o h (fun e => n (by rw [e]; exact hsub _ (by simp [six])))
   have s1 := s.same e1
   have B2_ := B1.keep s1 k2S
   have r2 := k2 _ _ l1.r (Ne.symm n1.2.2.1)
   have lRE : (rfO c.R).length = (rfE c.E).length := by
     have := congrArg List.length B.eq
     unfold dl dr at this
     rw [List.length_map, List.length_map] at this
     rw [rfO_len, rfE_len]
     exact this.symm
   refine ⟨_, rfl, _, _, rfl, rfl, _, rfl, decT (by omega) ?_⟩
   have hl2 := k2S _ _ hl llS
   refine ⟨_, rfl, .inl ⟨rfl, _, SqL.of r2⟩, _, rfl, _, rfl, (by show 2 ≤ sizeLine; decide), fun n hn0 => ?_⟩
   have f3 := same_upd (o := .tup [.int d, .ref ll]) hn0
   have hn3 := upd_same (H := H2) (a := n) (o := .tup [.int d, .ref ll])
   generalize upd H2 n (.tup [.int d, .ref ll]) = H3 at f3 hn3 ⊢
   refine ⟨a.rl, _, _, rfl, rfl, f3 _ _ r2, (by omega), ?_⟩
   have k4 : ∀ b o, H3 b = some o → b ≠ a.rl → upd H3 a.rl (.lst (rfO c.R ++ [.ref n])) b = some o := fun b o h m => by
     rw [upd_ne m]
     exact h
   have kall : ∀ b o, H b = some o → b ∉ six a → upd H3 a.rl (.lst (rfO c.R ++ [.ref n])) b = some o := fun b o h m => k4 b o (f3 _ _ (k2 b o (e1 _ _ h) (six_not m).1)) (six_not m).2.2.2.1
   have s2 : SixL S H2 := fun b hb => by
     obtain ⟨xs, hx⟩ := s1 b hb
     by_cases e0 : b = a.kl
     · rw [e0]
       exact ⟨_, hk2⟩
     · exact ⟨xs, k2 b _ hx e0⟩
   have k4S : ∀ b o, H2 b = some o → b ∉ S → upd H3 a.rl (.lst (rfO c.R ++ [.ref n])) b = some o := fun b o h m => k4 b o (f3 _ _ h) (fun e => m (by rw [e]; exact hsub _ (by simp [six])))
   have B4 := B2_.keep s2 k4S
   have eS : ∀ {b : Addr} {o : List V}, H2 b = some (.tup o) → b ∉ S := fun h => s2.tup h
   have hL4 : R5 (upd H3 a.rl (.lst (rfO c.R ++ [.ref n]))) L := fun w hw => k4S _ _ (k2S _ _ (hL w hw) (s1.tup (hL w hw))) (s1.tup (hL w hw))
   obtain ⟨E', hE'⟩ : ∃ E', E' = c.E ++ [(e, d, (((rfP c.YT).length : Int) + 1), t, L)] := ⟨_, rfl⟩
   obtain ⟨R', hR'⟩ : ∃ R', R' = c.R ++ [(n, d, ll, L)] := ⟨_, rfl⟩
   have dlE : dl E' = dl c.E ++ [(d, L)] := by
     rw [hE', dl_app]
     rfl
   have lk4 : upd H3 a.rl (.lst (rfO c.R ++ [.ref n])) a.kl = some (.lst (rfE E')) := by
     rw [hE', rfE_app]
     exact k4 _ _ (f3 _ _ hk2) n1.2.2.1
   have lr4 : upd H3 a.rl (.lst (rfO c.R ++ [.ref n])) a.rl = some (.lst (rfO R')) := by
     rw [upd_same, hR', rfO_app]
     rfl
   refine ⟨_, rfl, _, rfl, true, rfl, iteT ?_⟩
   refine ⟨_, rfl, _, rfl, rfl, ?_⟩
   rw [decide_eq_true (congrArg V.int (by omega))]
   refine q ⟨E', R', c.G, c.U, c.ZP, c.ZF, c.YT, c.YU⟩ _ kall ⟨B4.kb, ?_, ?_, ?_, ?_, ?_, ?_, B4.zp, B4.zf, B4.yt, B4.yu, B4.ns, ?_⟩ ⟨lk4, ?_, ?_, lr4, ?_, ?_⟩ ?_ (Nat.le_succ _) (Nat.le_succ _)
   · show EnL _ E'
     rw [hE']
     exact mem_app1 B4.en ⟨k4S _ _ he2 (eS he2), k4S _ _ ht2 (eS ht2), hL4, g.n⟩
   · show RoL _ R'
     rw [hR']
     exact mem_app1 B4.ro ⟨k4 _ _ hn3 (ne_of hn3 (f3 _ _ r2) (by intro z; cases z)), k4S _ _ hl2 llS, hL4, g.n⟩
   · show ∀ e ∈ R', _
     rw [hR']
     exact mem_app1 B4.rs llS
   · show dl E' = dr R'
     rw [dlE, hR', dr_app, B.eq]
     rfl
   · show ∀ w ∈ dl E', _
     rw [dlE]
     exact mem_app1 B4.dy hd0
   · show ∀ w ∈ dl E', _
     rw [dlE]
     exact mem_app1 B4.ak hak
   · show PI a.f (dl E') c.G c.U
     rw [dlE]
     exact B4.pi.post (by show (c.U.length : Int) ≤ d / 30; omega)
   · exact k4 _ _ (f3 _ _ (k2 _ _ l1.p (Ne.symm n1.1))) n2.2.1
   · exact k4 _ _ (f3 _ _ (k2 _ _ l1.f (Ne.symm n1.2.1))) n3.1
   · exact k4 _ _ (f3 _ _ (k2 _ _ l1.t (Ne.symm n1.2.2.2.1))) (Ne.symm n4.1)
   · exact k4 _ _ (f3 _ _ (k2 _ _ l1.u (Ne.symm n1.2.2.2.2))) (Ne.symm n4.2)
   · show E'.length ≤ _
     rw [hE', List.length_append]
     exact Nat.le_refl _
 refine ⟨_, rfl, rfl, _, rfl, ?_⟩
 refine dec2 (fun hw => ?_) (fun hw => ?_)
 · refine ⟨_, rfl, _, rfl, a.ul, _, rfl, .inl (SqL.of l.u), _, rfl, a.tl, _, rfl, .inl (SqL.of l.t), _, _, rfl, rfl, _, rfl, _, rfl, a.ul, _, rfl, .inl (SqL.of l.u), a.rl, _, c.R, rfl, l.r, B.ro, (by omega), (by rw [← B.eq]; exact ak_upto B.ak _), fun g F H1 e1 hg0 hg hF hFg => ⟨(by show 4 ≤ sizeLine; decide), fun n hn0 => ?_⟩⟩
   rw [← B.eq] at hFg
   have gS := s.fre hg0
   have f2 := same_upd (o := .tup [.str a.f, .int ((rfP c.YU).length : Int), .int (((rfP c.YT).length : Int) + 1), .ref g]) hn0
   have pd2 : Pap (upd H1 n (.tup [.str a.f, .int ((rfP c.YU).length : Int), .int (((rfP c.YT).length : Int) + 1), .ref g])) a.f c.U.length (c.G.length + 1) (n, g, F) := by
     refine ⟨?_, f2 _ _ hg, hF.same f2⟩
     rw [upd_same, yul, ytl]
     rfl
   have e2 := e1.trans f2
   generalize upd H1 n (.tup [.str a.f, .int ((rfP c.YU).length : Int), .int (((rfP c.YT).length : Int) + 1), .ref g]) = H2 at f2 pd2 e2 ⊢
   have B2_ := B.same s e2
   have l2 := l.same e2
   have s2 := s.same e2
   refine ⟨_, rfl, .inl ⟨rfl, _, SqL.of l2.t⟩, _, rfl, a.tl, _, _, rfl, rfl, l2.t, (by omega), ?_⟩
   have u3 : upd H2 a.tl (.lst (rfP c.YT ++ [.ref n])) a.ul = some (.lst (rfP c.YU)) := by
     rw [upd_ne (Ne.symm n5)]
     exact l2.u
   refine ⟨_, rfl, .inl ⟨rfl, _, SqL.of u3⟩, _, rfl, a.ul, _, _, rfl, rfl, u3, (by omega), ?_⟩
   have k4 : ∀ b o, H2 b = some o → b ≠ a.tl → b ≠ a.ul → upd (upd H2 a.tl (.lst (rfP c.YT ++ [.ref n]))) a.ul (.lst (rfP c.YU ++ [.ref n])) b = some o := fun b o h m1 m2 => by
     rw [upd_ne m2, upd_ne m1]
     exact h
   have t4 : upd (upd H2 a.tl (.lst (rfP c.YT ++ [.ref n]))) a.ul (.lst (rfP c.YU ++ [.ref n])) a.tl = some (.lst (rfP (c.YT ++ [(n, g, F)]))) := by
     rw [upd_ne n5, upd_same, rfP_app]
     rfl
   have u4 : upd (upd H2 a.tl (.lst (rfP c.YT ++ [.ref n]))) a.ul (.lst (rfP c.YU ++ [.ref n])) a.ul = some (.lst (rfP (c.YU ++ [(n, g, F)]))) := by
     rw [upd_same, rfP_app]
     rfl
   generalize upd (upd H2 a.tl (.lst (rfP c.YT ++ [.ref n]))) a.ul (.lst (rfP c.YU ++ [.ref n])) = H4 at k4 t4 u4 ⊢
   have k4S : ∀ b o, H2 b = some o → b ∉ S → H4 b = some o := fun b o h m => k4 b o h (fun e => m (by rw [e]; exact hsub _ (by simp [six]))) (fun e => m (by rw [e]; exact hsub _ (by simp [six])))
   have s4 : SixL S H4 := fun b hb => by
     obtain ⟨xs, hx⟩ := s2 b hb
     by_cases h1 : b = a.tl
     · rw [h1]
       exact ⟨_, t4⟩
     · by_cases h2 : b = a.ul
       · rw [h2]
         exact ⟨_, u4⟩
       · exact ⟨xs, k4 b _ hx h1 h2⟩
   have B4 := B2_.keep s2 k4S
   have pd4 := pd2.keep s2 k4S gS
   have kk4 := k4 _ _ l2.k n1.2.2.2.1 n1.2.2.2.2
   have pp4 := k4 _ _ l2.p n2.2.2.1 n2.2.2.2
   have ff4 := k4 _ _ l2.f n3.2.1 n3.2.2
   have rr4 := k4 _ _ l2.r n4.1 n4.2
   obtain ⟨dx, fs, hp, hbk, hke, hpa, hin, hno⟩ := B4.kb.ob
   refine ⟨_, rfl, a.p, dx, fs, rfl, hp, hno _ (by decide +kernel), a.p, a.kl, a.pl, a.fl, a.f, c.E, rfP c.ZP, c.ZF, rfl, B4.kb, kk4, B4.en, (by omega), ak_upto B.ak _, pp4, ff4, (by omega), (by omega), n2.1, fun zz yy H5 k5 hp5 hf5 hz hy hgyz hF5 hz0 hy0 hyz => ?_⟩
   rw [zpl, zfl] at hz hy
   rw [zfl] at hF5
   have k5S : ∀ b o, H4 b = some o → b ∉ S → H5 b = some o := fun b o h m => k5 b o h (fun e => m (by rw [e]; exact hsub _ (by simp [six]))) (fun e => m (by rw [e]; exact hsub _ (by simp [six])))
   have B5 := B4.keep s4 k5S
   have pd5 := pd4.keep s4 k5S gS
   rw [yul] at hFg
   have hgz : gs zz = gs (n, g, F) := fig_one hF5 hFg
   refine ⟨_, rfl, a.f, c.U.length, c.G.length + 1, yy, (n, g, F), rfl, hy, pd5, hgyz.trans hgz, ?_⟩
   have gl60 : (gs zz).length ≤ 60 := Nat.le_trans (fig_klen hF5) (ak_upto B.ak _)
   have zS := s4.fre hz0
   refine q ⟨c.E, c.R, c.G ++ [(a.f, c.U.length, c.G.length + 1, gs zz)], c.U ++ [(a.f, c.U.length, c.G.length + 1, gs zz)], c.ZP ++ [zz], c.ZF ++ [zz], c.YT ++ [(n, g, F)], c.YU ++ [(n, g, F)]⟩ H5 ?_ ⟨B5.kb, B5.en, B5.ro, B5.rs, B5.eq, B5.dy, B5.ak, B5.zp.app ⟨hz, rfl⟩, B5.zf.app ⟨hz, rfl⟩, B5.yt.app ⟨pd5, hgz.symm⟩, B5.yu.app ⟨pd5, hgz.symm⟩, ?_, B5.pi.close gl60 hF5⟩ ⟨k5 _ _ kk4 n1.1 n1.2.1, ?_, hf5, k5 _ _ rr4 (Ne.symm n2.2.1) (Ne.symm n3.1), k5 _ _ t4 (Ne.symm n2.2.2.1) (Ne.symm n3.2.1), k5 _ _ u4 (Ne.symm n2.2.2.2) (Ne.symm n3.2.2)⟩ (Nat.le_succ _) (by rw [List.length_append]; exact Nat.le_refl _) (by rw [List.length_append]; exact Nat.le_refl _)
   · exact fun b o h m => k5 b o (k4 b o (e2 _ _ h) (six_not m).2.2.2.2.1 (six_not m).2.2.2.2.2) (six_not m).2.1 (six_not m).2.2.1
   · have na : ∀ {A : List Pp} {v : Pp}, (∀ w ∈ A, w.2.1 ∉ S) → v.2.1 ∉ S → ∀ w ∈ A ++ [v], w.2.1 ∉ S := fun h1 h2 => mem_app1 h1 h2
     rintro w (h | h | h | h)
     · exact na (fun w hw => B5.ns w (.inl hw)) zS w h
     · exact na (fun w hw => B5.ns w (.inr (.inl hw))) zS w h
     · exact na (v := (n, g, F)) (fun w hw => B5.ns w (.inr (.inr (.inl hw)))) gS w h
     · exact na (v := (n, g, F)) (fun w hw => B5.ns w (.inr (.inr (.inr hw)))) gS w h
   · rw [rfP_app]
     exact hp5
 refine ⟨_, rfl, rfl, _, rfl, ?_⟩
 apply join1 (fun (_ : Unit) => True)
 · intro kk
   obtain ⟨u0, _⟩ : ∃ u : Unit, u = () := ⟨(), rfl⟩
   refine dec2 (fun hw => ?_) (fun hw => iteF (kk u0 trivial))
   refine ⟨_, rfl, a.ul, _, rfl, .inl (SqL.of l.u), _, _, rfl, rfl, _, rfl, ?_⟩
   refine dec2 (fun hup => ?_) (fun hup => kk u0 trivial)
   obtain ⟨W0, w, hW⟩ : ∃ W0 w, c.YU = W0 ++ [w] := by
     rcases List.eq_nil_or_concat c.YU with h | ⟨W0, w, h⟩
     · rw [h] at hup
       exact absurd hup (by simp [rfP])
     · exact ⟨W0, w, by rw [h, List.concat_eq_append]⟩
   obtain ⟨U0, u, hU⟩ : ∃ U0 u, c.U = U0 ++ [u] := by
     rcases List.eq_nil_or_concat c.U with h | ⟨W0, w, h⟩
     · have := B.yu.1
       rw [h, hW, List.length_append] at this
       exact absurd this (by simp)
     · exact ⟨W0, w, by rw [h, List.concat_eq_append]⟩
   obtain ⟨Z0, zz, hZ⟩ : ∃ Z0 zz, c.ZF = Z0 ++ [zz] := by
     rcases List.eq_nil_or_concat c.ZF with h | ⟨W0, w, h⟩
     · have := B.zf.1
       rw [h, hU, List.length_append] at this
       exact absurd this (by simp)
     · exact ⟨W0, w, by rw [h, List.concat_eq_append]⟩
   have yu' := B.yu
   have zf' := B.zf
   rw [hU, hW] at yu'
   rw [hU, hZ] at zf'
   have zl9 : (rfP c.YU).length = W0.length + 1 := by
     rw [hW, rfP_len, List.length_append]
     rfl
   refine ⟨_, rfl, _, rfl, .inl ⟨rfl, _, SqL.of l.u⟩, a.ul, _, _, rfl, rfl, l.u, (by rw [zl9, show W0.length + 1 - 1 = W0.length by omega, hW]; unfold rfP; rw [List.map_append, show W0.length = (W0.map fun z => V.ref z.1).length from (List.length_map ..).symm]; exact last_at _ _), (by show 1 ≤ sizeLine; decide), fun l1 hl1 => ?_⟩
   have u1 : upd H a.ul (.lst (rfP c.YU).dropLast) a.ul = some (.lst (rfP W0)) := by
     rw [upd_same, hW]
     unfold rfP
     rw [List.map_append]
     show some (HO.lst ((W0.map fun z => V.ref z.1) ++ [V.ref w.1]).dropLast) = _
     rw [List.dropLast_concat]
   have k1 : ∀ b o, H b = some o → b ≠ a.ul → upd H a.ul (.lst (rfP c.YU).dropLast) b = some o := fun b o h m => by
     rw [upd_ne m]
     exact h
   generalize upd H a.ul (.lst (rfP c.YU).dropLast) = H1 at u1 k1 hl1 ⊢
   have k1S : ∀ b o, H b = some o → b ∉ S → H1 b = some o := fun b o h m => k1 b o h (fun e => m (by rw [e]; exact hsub _ (by simp [six])))
   have s1 : SixL S H1 := fun b hb => by
     obtain ⟨xs, hx⟩ := s b hb
     by_cases h1 : b = a.ul
     · rw [h1]
       exact ⟨_, u1⟩
     · exact ⟨xs, k1 b _ hx h1⟩
   have B1 := B.keep s k1S
   have wS := B.ns w (.inr (.inr (.inr (by rw [hW]; simp))))
   have zS := B.ns zz (.inr (.inl (by rw [hZ]; simp)))
   have pw1 : Pa H1 u w := ⟨yu'.last.1.keep s k1S wS, yu'.last.2⟩
   have pz1 : Pa H1 u zz := ⟨zf'.last.1.keep s k1S zS, zf'.last.2⟩
   have f2 := same_upd (o := .lst [.ref w.1]) hl1
   have hl2 := upd_same (H := H1) (a := l1) (o := .lst [.ref w.1])
   generalize upd H1 l1 (.lst [.ref w.1]) = H2 at f2 hl2 ⊢
   refine ⟨l1, [w], [u], rfl, hl2, (PaG.nil _).app (pw1.same f2), (by show 1 ≤ 60; decide), fun r Y H3 e3 hr0 hr3 hY3 hYf => ?_⟩
   have e13 := f2.trans e3
   obtain ⟨y9, rfl⟩ : ∃ y9, Y = [y9] := by
     rcases Y with _ | ⟨y9, _ | ⟨y8, Y⟩⟩
     · exact absurd hY3.1 (by simp)
     · exact ⟨y9, rfl⟩
     · exact absurd hY3.1 (by simp)
   have py := hY3.2 0 u y9 rfl rfl
   have uf : u.1 = a.f := by
     have h := B.pi.u U0.length u (by rw [hU]; exact last_at _ _)
     exact (B.pi.g _ _ h.2.2.1).1
   have pz3 := pz1.same e13
   have pzf := pz3.1
   have pyf := py.1
   rw [uf] at pzf pyf
   have fl3 : H3 a.fl = some (.lst (rfP c.ZF)) := e13 _ _ (k1 _ _ l.f n3.2.2)
   refine .inl ⟨r, _, 0, _, rfl, rfl, SqL.of hr3, rfl, a.p, a.kl, a.pl, a.fl, a.f, .ref y9.1, c.ZF, rfl, B1.kb.same e13, fl3, (by omega), .inr ⟨Z0, zz, u.2.1, u.2.2.1, hZ, pzf, .inr ⟨y9.1, y9.2.1, a.f, _, _, y9.2.2, rfl, pyf.1, pyf.2.1, pyf.2.2, (decide_eq_true ⟨rfl, rfl, rfl, (py.2.trans pz3.2.symm : gs y9 = gs zz)⟩).symm⟩, fun H4 k4 hf4 => ⟨rfl, ?_⟩⟩⟩
   rw [decide_eq_true rfl]
   have k4S : ∀ b o, H3 b = some o → b ∉ S → H4 b = some o := fun b o h m => k4 b o h (fun e => m (by rw [e]; exact hsub _ (by simp [six])))
   have B4 := (B1.same s1 e13).keep (s1.same e13) k4S
   have zf4 := B4.zf
   have yu4 := B4.yu
   rw [hU, hZ] at zf4
   rw [hU, hW] at yu4
   have pi4 := B4.pi
   rw [hU] at pi4
   refine q ⟨c.E, c.R, c.G, U0, c.ZP, Z0, c.YT, W0⟩ H4 ?_ ⟨B4.kb, B4.en, B4.ro, B4.rs, B4.eq, B4.dy, B4.ak, B4.zp, zf4.init, B4.yt, yu4.init, ?_, pi4.init⟩ ⟨?_, ?_, hf4, ?_, ?_, ?_⟩ (Nat.le_succ _) (Nat.le_succ _) ?_
   · exact fun b o h m => k4 b o (e13 _ _ (k1 b o h (six_not m).2.2.2.2.2)) (six_not m).2.2.1
   · rintro w9 (h | h | h | h)
     · exact B.ns w9 (.inl h)
     · exact B.ns w9 (.inr (.inl (by rw [hZ]; exact List.mem_append_left _ h)))
     · exact B.ns w9 (.inr (.inr (.inl h)))
     · exact B.ns w9 (.inr (.inr (.inr (by rw [hW]; exact List.mem_append_left _ h))))
   · exact k4 _ _ (e13 _ _ (k1 _ _ l.k n1.2.2.2.2)) n1.2.1
   · exact k4 _ _ (e13 _ _ (k1 _ _ l.p n2.2.2.2)) n2.1
   · exact k4 _ _ (e13 _ _ (k1 _ _ l.r n4.2)) (Ne.symm n3.1)
   · exact k4 _ _ (e13 _ _ (k1 _ _ l.t n5)) (Ne.symm n3.2.1)
   · exact k4 _ _ (e13 _ _ u1) (Ne.symm n3.2.2)
   · show U0.length ≤ c.U.length + 1
     rw [hU, List.length_append]
     omega
 rintro _ _
 refine ⟨_, rfl, _, rfl, _, rfl, _, rfl, _, rfl, .inl ⟨cs, _, 1, _, rfl, rfl, SqL.of hcs, rfl, a.tl, a.ul, a.f, _, dl c.E, c.G, c.U, c.YT, c.YU, rfl, l.t, B.yt, (by rw [B.yt.1]; omega), l.u, B.yu, (by rw [B.yu.1]; omega), lf, B.pi, fun v H1 e1 hv => ?_⟩⟩
 have B1 := B.same s e1
 have l1 := l.same e1
 have hor : c.ZF = [] ∨ ∃ (Z0 : List Pp) (z : Pp) (k t : Nat), c.ZF = Z0 ++ [z] ∧ Pap H1 a.f k t z ∧ HdB H1 v a.f k t (gs z) false := by
   rcases List.eq_nil_or_concat c.ZF with h | ⟨Z0, zz, h⟩
   · exact .inl h
   · rw [List.concat_eq_append] at h
     obtain ⟨U0, u, hU⟩ : ∃ U0 u, c.U = U0 ++ [u] := by
       rcases List.eq_nil_or_concat c.U with h2 | ⟨W0, w, h2⟩
       · rw [h2, h, List.length_append] at zfl
         exact absurd zfl (by simp)
       · exact ⟨W0, w, by rw [h2, List.concat_eq_append]⟩
     have zf' := B1.zf
     rw [hU, h] at zf'
     have uf : u.1 = a.f := by
       have h := B.pi.u U0.length u (by rw [hU]; exact last_at _ _)
       exact (B.pi.g _ _ h.2.2.1).1
     have pz := zf'.last
     have hv2 := hv U0 u hU
     rw [← pz.2, uf] at hv2
     have pz1 := pz.1
     rw [uf] at pz1
     exact .inr ⟨Z0, zz, u.2.1, u.2.2.1, h, pz1, hv2⟩
 refine ⟨a.p, a.kl, a.pl, a.fl, a.f, v, c.ZF, rfl, B1.kb, l1.f, (by omega), .inl ⟨hor, fun H2 e2 => ⟨rfl, ?_⟩⟩⟩
 rw [decide_eq_true rfl]
 exact q c _ (fun b o h _ => e2 _ _ (e1 _ _ h)) (B1.same (s.same e1) e2) (l1.same e2) (Nat.le_succ _) (Nat.le_succ _) (Nat.le_succ _)
theorem op_isT {X : Cx} : OpR X (compareOp .Is) (fun x y H Q => x = .bl true ∧ y = .bl true ∧ Q (.bl true) H) := by
 intro pins s σ H x y v u Q I rx ry h
 obtain ⟨rfl, rfl, q⟩ := h
 cases rx
 cases ry
 exact wpAny_pure ⟨.bl true, H, I, rfl, q⟩
theorem rows_EqLs {K : PySem.W.Frag} {H : Hp} {F D : List Rw4} (hF : R4 H F) (hD : R4 H D) (e : F.map (·.2) = D.map (·.2)) : EqLs K H (rf4 F) (rf4 D) := by
 refine ⟨?_, fun j x u h1 h2 => ?_⟩
 · have := congrArg List.length e
   rw [List.length_map, List.length_map] at this
   rw [rf4_len, rf4_len]
   exact this
 obtain ⟨y1, m1, rfl⟩ := rf4_at h1
 obtain ⟨y2, m2, rfl⟩ := rf4_at h2
 have hyy : y1.2 = y2.2 := by
   have h := congrArg (fun l => l[j]?) e
   simp only [List.getElem?_map, m1, m2] at h
   exact Option.some.inj h
 have t1 := hF y1 (List.mem_of_getElem? m1)
 have t2 := hD y2 (List.mem_of_getElem? m2)
 unfold tup4 at t1 t2
 rw [← hyy] at t2
 refine .inr ⟨y1.1, y2.1, _, rfl, rfl, SqT.of t1, SqT.of t2, fun w hw => ?_⟩
 simp only [List.mem_cons, List.not_mem_nil, or_false] at hw
 rcases hw with rfl | rfl | rfl | rfl <;> rfl
theorem ak_fig {x y z : Str} {D : Dl} (h : ∀ d ∈ D, ∀ v ∈ d.2, v.2.2.1 ∈ AK x y z) {m : Int} {g : List Pr} (f : Fig (pr5 (upto D m)) g) : ∀ p ∈ g, p.1 ∈ AK x y z := fun p hp => by
 obtain ⟨v, hv, e⟩ := List.mem_map.mp (fig_mem f p hp)
 obtain ⟨w, hw, rfl⟩ := List.mem_map.mp hv
 rw [← e]
 unfold upto at hw
 obtain ⟨d, hd, hw⟩ := List.mem_flatMap.mp hw
 split at hw
 · exact h d hd w hw
 · cases hw
theorem ak_figm {x y z : Str} {D : Dl} (h : ∀ d ∈ D, ∀ v ∈ d.2, v.2.2.1 ∈ AK x y z) {m : Int} {g : List Pr} (f : Fig (pr5 (mon D m)) g) : ∀ p ∈ g, p.1 ∈ AK x y z := fun p hp => by
 obtain ⟨v, hv, e⟩ := List.mem_map.mp (fig_mem f p hp)
 obtain ⟨w, hw, rfl⟩ := List.mem_map.mp hv
 rw [← e]
 unfold mon at hw
 obtain ⟨d, hd, hw⟩ := List.mem_flatMap.mp hw
 split at hw
 · exact h d hd w hw
 · cases hw
def spEnd (C : Addr) : Sp := fun vs H Q _ => ∃ (a : Ad) (c : Ct) (S : List Addr) (st : Addr) (x y z : Str), vs = [.ref a.p, .ref st] ∧ SixL S H ∧ BkO C S x y z H a c ∧ BkL H a c ∧ c.E.length ≤ 20 ∧ c.U.length ≤ 20 ∧ H st = some (.tup [.str a.f, .ref a.rl, .ref a.tl, .ref a.ul]) ∧ ∀ H', Same H H' → Q (.bl true) H'
theorem sc__law_end : FnScope ["_law_book", "_law_state", "_law_ahead", "_law_paper_here", "_law_firm", "_law_rows", "_law_told", "_law_up"] ["_law_book", "_law_state"] (defScope s__law_end) := ⟨rfl, rfl, rfl, by decide +kernel, rfl, by decide +kernel, by decide +kernel⟩
theorem ok__law_end (D : Def K mg "_law_end" s__law_end .none) {C_KeptBook : Addr} (c_KeptBook_standing : CalM P w K mg base CX0 true 2 C_KeptBook "standing" ["self"] [] (spStandG C_KeptBook)) (c_paper_holds : Cal P w K mg base CX0 true 5 "paper_holds" ["book", "paper"] [] (spHolds C_KeptBook)) (c__law_upto : Cal P w K mg base CX0 true 2 "_law_upto" ["_law_rows", "_law_month"] [] spUL) (c_carried : Cal P w K mg base CX0 true 2 "carried" ["figures", "more"] [] spCar) (c_movement_of : Cal P w K mg base CX0 true 3 "movement_of" ["book", "month"] [] (spMov C_KeptBook)) (c__law_papers : Cal P w K mg base CX0 true 3 "_law_papers" ["_law_found", "_law_due"] [] spPapers) (cl_KeptBook : Cls K C_KeptBook) : Cal P w K mg base CX0 true 6 "_law_end" ["_law_book", "_law_state"] [] (spEnd C_KeptBook) := by
 obtain ⟨f, fd, F, hm⟩ := D
 obtain ⟨f_KeptBook_standing, fd_KeptBook_standing, d_KeptBook_standing, G_KeptBook_standing, m_KeptBook_standing, b_KeptBook_standing, v_KeptBook_standing, b_KeptBook_standing1⟩ := c_KeptBook_standing
 obtain ⟨f_paper_holds, fd_paper_holds, d_paper_holds, G_paper_holds, m_paper_holds, k_paper_holds, b_paper_holds, v_paper_holds, b_paper_holds1⟩ := c_paper_holds
 obtain ⟨f__law_upto, fd__law_upto, d__law_upto, G__law_upto, m__law_upto, k__law_upto, b__law_upto, v__law_upto, b__law_upto1⟩ := c__law_upto
 obtain ⟨f_carried, fd_carried, d_carried, G_carried, m_carried, k_carried, b_carried, v_carried, b_carried1⟩ := c_carried
 obtain ⟨f_movement_of, fd_movement_of, d_movement_of, G_movement_of, m_movement_of, k_movement_of, b_movement_of, v_movement_of, b_movement_of1⟩ := c_movement_of
 obtain ⟨f__law_papers, fd__law_papers, d__law_papers, G__law_papers, m__law_papers, k__law_papers, b__law_papers, v__law_papers, b__law_papers1⟩ := c__law_papers
 refine ⟨f, fd, _, F.ok sc__law_end (fun vs H Q E h => ?_) (fun cdv A outer s H vs Q E hr h => ?_), hm, F.kp, (F.binds fun _ _ _ _ _ _ us hl => match us, hl with | [_, _], _ => rfl), .nil, F.binds fun _ _ _ _ _ _ us hl => match us, hl with | [_, _], _ => rfl⟩
 · obtain ⟨a, c, S, st, x, y, z, rfl, s, B, l, lE, lU, hst, q⟩ := h
   rfl
 obtain ⟨a, c, S, st, x, y, z, rfl, s, B, l, lE, lU, hst, q⟩ := h
 have nd := sc__law_end.nd
 refine ⟨_, (pss_cons (ps_asg (pv 1) (pg_tup rfl (pgs_cons (pg_name (i := 4) nd rfl (Or.inl rfl)) (pgs_cons (pg_name (i := 5) nd rfl (Or.inl rfl)) (pgs_cons (pg_name (i := 6) nd rfl (Or.inl rfl)) (pgs_cons (pg_name (i := 7) nd rfl (Or.inl rfl)) pgs_nil))))))
   (pss_cons (ps_set (i := 2) nd rfl (Or.inl rfl) (pe_lst pa_nil))
   (pss_cons (ps_for PassesOwn.never rfl (pi_list (pe_meth0 (pv 0) cl_KeptBook m_KeptBook_standing G_KeptBook_standing (hr.mono (by decide)) b_KeptBook_standing Paired.nil pass0)) (pg_name (i := 3) nd rfl (Or.inl rfl)) (pss_cons (ps_if (PW.pt (pw_or (pt_not (pt_cmpR op_isT (pe_call G_paper_holds (hr.mono (by decide)) rfl m_paper_holds k_paper_holds b_paper_holds Paired.nil pass0 (pa_cons (pv 0) (pa_cons (pv 3) pa_nil))) pe_bl (nomark _))) (pw_or1 (pt_cmpR (op_neD hr) (pe_ix ix_seq (pv 3) pe_int (fun _ _ => rfl)) (pe_call G__law_upto (hr.mono (by decide)) rfl m__law_upto k__law_upto b__law_upto Paired.nil pass0 (pa_cons (pv 5) (pa_cons (pe_ix ix_seq (pv 3) pe_int (fun _ _ => rfl)) pa_nil))) (nomark _))))) (pss_one (ps_ret pe_bl)) pss_nil)
   (pss_cons (ps_if (pt_cmpR (op_neD hr) (pe_call G_carried (hr.mono (by decide)) rfl m_carried k_carried b_carried Paired.nil pass0 (pa_cons (pv 2) (pa_cons (pe_call G_movement_of (hr.mono (by decide)) rfl m_movement_of k_movement_of b_movement_of Paired.nil pass0 (pa_cons (pv 0) (pa_cons (pe_ix ix_seq (pv 3) pe_int (fun _ _ => rfl)) pa_nil))) pa_nil))) (pe_ix ix_seq (pv 3) pe_int (fun _ _ => rfl)) (nomark _)) (pss_one (ps_ret pe_bl)) pss_nil)
   (pss_one (ps_set (i := 2) nd rfl (Or.inl rfl) (pe_ix ix_seq (pv 3) pe_int (fun _ _ => rfl)))))))
   (pss_one (ps_ret (pe_call G__law_papers (hr.mono (by decide)) rfl m__law_papers k__law_papers b__law_papers Paired.nil pass0 (pa_cons (pe_meth0 (pv 0) cl_KeptBook m_KeptBook_standing G_KeptBook_standing (hr.mono (by decide)) b_KeptBook_standing Paired.nil pass0) (pa_cons (pv 7) pa_nil)))))))), ?_⟩
 have hline : 600 ≤ sizeLine := by decide
 have zfl : c.ZF.length = c.U.length := B.zf.1
 have rE : c.R.length = c.E.length := by
   have := congrArg List.length B.eq
   unfold dl dr at this
   rw [List.length_map, List.length_map] at this
   exact this.symm
 refine ⟨_, rfl, st, _, rfl, SqT.of hst, rfl, _, _, rfl, _, _, rfl, _, _, rfl, _, _, rfl, rfl, ?_⟩
 refine ⟨(by show 0 ≤ sizeLine; decide), fun l0 hl00 => ?_⟩
 have f1 := same_upd (o := .lst []) hl00
 have hl0 : upd H l0 (.lst []) l0 = some (.lst (rf4 [])) := upd_same
 generalize upd H l0 (.lst []) = H1 at f1 hl0 ⊢
 have B1 := B.same s f1
 have l1 := l.same f1
 obtain ⟨dx, fs, hp, hbk, hke, hpa, hin, hno⟩ := B1.kb.ob
 refine ⟨_, rfl, a.p, dx, fs, rfl, hp, hno _ (by decide +kernel), a.p, a.kl, a.pl, a.fl, a.f, c.ZF, c.U, rfl, B1.kb, l1.f, B1.zf, (by omega), fun r Y H2 e2 hr0 hr2 hY2 hYf => ⟨r, rfl, ⟨_, SqL.of hr2⟩, ?_⟩⟩
 have e02 := f1.trans e2
 have fig0 : Fig (pr5 (upto (dl c.E) (((0 : Nat) : Int) - 1))) (([] : List Rw4).map (·.2)) := by
   rw [show (((0 : Nat) : Int) - 1) = -1 by omega, up_none _ B.dy]
   exact ⟨[], List.Perm.refl _, List.Pairwise.nil, rfl⟩
 refine for_list (xs := rfP Y) (fun i σ H' => ∃ (o3 : Option V) (al : Addr) (F0 : List Rw4), σ = [some (.ref a.p), some (.ref st), some (.ref al), o3, some (.str a.f), some (.ref a.rl), some (.ref a.tl), some (.ref a.ul)] ∧ Same H H' ∧ H' al = some (.lst (rf4 F0)) ∧ R4 H' F0 ∧ F0.length ≤ 60 ∧ Fig (pr5 (upto (dl c.E) ((i : Int) - 1))) (F0.map (·.2)) ∧ H' r = some (.lst (rfP Y)) ∧ PaG H' c.U Y) ⟨_, l0, [], rfl, e02, e2 _ _ hl0, (fun v hv => nomatch hv), Nat.zero_le _, fig0, hr2, hY2⟩ ?_ ?_ ?_
 · rintro i σ H3 hi ⟨o3, al, F0, rfl, _, _, _, _, _, hr3, _⟩
   exact SqL.of hr3
 · rintro i v σ H3 hv ⟨o3, al, F0, rfl, e3, hal, hF0, lF0, fg0, hr3, hY3⟩
   obtain ⟨w, hw, rfl⟩ := rfP_at hv
   have hi := (List.getElem?_eq_some_iff.mp hw).1
   have hYl := hY3.1
   obtain ⟨u, hu⟩ : ∃ u, c.U[i]? = some u := ⟨_, List.getElem?_eq_getElem (by omega)⟩
   obtain ⟨pw, gw⟩ := hY3.2 i u w hu hw
   obtain ⟨u1, u2, u3, u4, u5⟩ := B.pi.u i u hu
   have uf := (B.pi.g _ _ u3).1
   rw [uf, u1] at pw
   rw [← gw] at u5
   have B3 := B.same s e3
   have l3 := l.same e3
   refine ⟨_, rfl, _, rfl, a.p, a.kl, a.pl, a.fl, w.1, w.2.1, a.f, (i : Int), _, c.E, w.2.2, rfl, B3.kb, l3.k, B3.en, lE, ak_upto B.ak _, pw.1, pw.2.1, pw.2.2, u5, fun H4 e4 => ⟨rfl, rfl, true, rfl, iteF ?_⟩⟩
   have pw4 := pw.same e4
   have B4 := B3.same (s.same e3) e4
   have l4 := l3.same e4
   have hT4 := SqT.of (K := K) pw4.1
   refine ⟨_, rfl, .inr (.inl ⟨w.1, _, 3, _, rfl, rfl, hT4, rfl, _, rfl, _, rfl, .inr (.inl ⟨w.1, _, 1, _, rfl, rfl, hT4, rfl, a.rl, (i : Int), c.R, rfl, l4.r, B4.ro, (by omega), (by rw [← B.eq]; exact ak_upto B.ak _), fun r5 F5 H5 e5 hr50 hr5 hF5 hFg5 => ?_⟩)⟩)⟩
   rw [← B.eq] at hFg5
   have pw5 := pw4.same e5
   refine ⟨w.2.1, r5, _, _, rfl, rfl, SqL.of pw5.2.1, SqL.of hr5, rows_EqLs pw5.2.2 hF5 (fig_one u5 hFg5), _, rfl, iteF ?_⟩
   have e35 := e4.trans e5
   have B5 := B4.same ((s.same e3).same e4) e5
   have l5 := l4.same e5
   have hT5 := SqT.of (K := K) pw5.1
   refine ⟨_, rfl, _, rfl, _, rfl, .inr (.inl ⟨w.1, _, 1, _, rfl, rfl, hT5, rfl, a.p, a.kl, (i : Int), c.E, rfl, B5.kb.ke, l5.k, B5.en, lE, ak_mon B.ak _, fun r6 F6 H6 e6 hr60 hr6 hF6 hFg6 => ?_⟩)⟩
   have e36 := e35.trans e6
   have lF6 : F6.length ≤ 60 := by
     have h1 := fig_klen hFg6
     rw [List.length_map] at h1
     exact Nat.le_trans h1 (ak_mon B.ak _)
   refine ⟨al, r6, F0, F6, rfl, e36 _ _ hal, hF0.same e36, hr6, hF6, (by omega), (by omega), kys_ak (x := x) (y := y) (z := z) (fun p hp => by rcases List.mem_append.mp hp with m | m; exact ak_fig B.ak fg0 p m; exact ak_figm B.ak hFg6 p m), fun r7 F7 H7 e7 hr70 hr7 hF7 hFg7 => ?_⟩
   have pw7 := (pw5.same e6).same e7
   have e37 := e36.trans e7
   have g7 : F7.map (·.2) = w.2.2.map (·.2) := fig_cat fg0 hFg6 hFg7 u5 (fun k => (up_mon (dl c.E) (i : Int) k).1) (fun k => (up_mon (dl c.E) (i : Int) k).2)
   have hT7 := SqT.of (K := K) pw7.1
   refine ⟨_, rfl, .inr (.inl ⟨w.1, _, 3, _, rfl, rfl, hT7, rfl, r7, w.2.1, _, _, rfl, rfl, SqL.of hr7, SqL.of pw7.2.1, rows_EqLs hF7 pw7.2.2 g7, _, rfl, iteF ?_⟩)⟩
   refine ⟨_, rfl, .inr (.inl ⟨w.1, _, 3, _, rfl, rfl, hT7, rfl, ?_⟩)⟩
   have lw : w.2.2.length ≤ 60 := by
     have h1 := fig_klen u5
     unfold gs at h1
     rw [List.length_map] at h1
     exact Nat.le_trans h1 (ak_upto B.ak _)
   exact ⟨_, w.2.1, w.2.2, rfl, e3.trans e37, pw7.2.1, pw7.2.2, lw, (by rw [show (((i + 1 : Nat) : Int) - 1) = (i : Int) by omega]; exact u5), e37 _ _ hr3, hY3.same e37⟩
 rintro σ H3 ⟨o3, al, F0, rfl, e3, _, _, _, _, _, _⟩
 have B3 := B.same s e3
 have l3 := l.same e3
 obtain ⟨dx3, fs3, hp3, hbk3, hke3, hpa3, hin3, hno3⟩ := B3.kb.ob
 refine ⟨_, rfl, a.p, dx3, fs3, rfl, hp3, hno3 _ (by decide +kernel), a.p, a.kl, a.pl, a.fl, a.f, c.ZF, c.U, rfl, B3.kb, l3.f, B3.zf, (by omega), fun r4 Y4 H4 e4 hr40 hr4 hY4 hYf4 => ?_⟩
 exact ⟨_, rfl, r4, a.ul, Y4, c.YU, c.U, rfl, hr4, hY4, e4 _ _ l3.u, B3.yu.same e4, (by rw [hY4.1]; omega), q _ (e3.trans e4)⟩
def spBI (C : Addr) : Sp := fun vs H Q _ => ∃ (p dx : Addr) (f : Str), vs = [.ref p, .str f] ∧ H p = some (.ins C dx []) ∧ ∀ kl H', H kl = none → H' p = some (.ins C dx (putF "kept" (.ref kl) (putF "book" (.str f) []))) → H' kl = some (.lst []) → (∀ b o, H b = some o → b ≠ p → H' b = some o) → Q .non H'
def spKI (C : Addr) : Sp := fun vs H Q _ => ∃ (p dx : Addr) (f : Str), vs = [.ref p, .str f] ∧ H p = some (.ins C dx []) ∧ ∀ kl pl fl H', H kl = none → H pl = none → H fl = none → kl ≠ pl → kl ≠ fl → pl ≠ fl → KB C H' p kl pl fl f → H' kl = some (.lst []) → H' pl = some (.lst []) → H' fl = some (.lst []) → (∀ b o, H b = some o → b ≠ p → H' b = some o) → Q .non H'
theorem pf_book (f : Str) (a b c : V) : (putF "in_force" c (putF "papers" b (putF "kept" a (putF "book" (.str f) [])))).lookup ("book" : Str) = some (.str f) := by
 rw [lookup_putF, if_neg (by decide +kernel), lookup_putF, if_neg (by decide +kernel), lookup_putF, if_neg (by decide +kernel), lookup_putF, if_pos rfl]
theorem pf_kept (f : Str) (a b c : V) : (putF "in_force" c (putF "papers" b (putF "kept" a (putF "book" (.str f) [])))).lookup ("kept" : Str) = some a := by
 rw [lookup_putF, if_neg (by decide +kernel), lookup_putF, if_neg (by decide +kernel), lookup_putF, if_pos rfl]
theorem pf_papers (f : Str) (a b c : V) : (putF "in_force" c (putF "papers" b (putF "kept" a (putF "book" (.str f) [])))).lookup ("papers" : Str) = some b := by
 rw [lookup_putF, if_neg (by decide +kernel), lookup_putF, if_pos rfl]
theorem pf_force (f : Str) (a b c : V) : (putF "in_force" c (putF "papers" b (putF "kept" a (putF "book" (.str f) [])))).lookup ("in_force" : Str) = some c := by
 rw [lookup_putF, if_pos rfl]
theorem pf_no (f : Str) (a b c : V) : ∀ m ∈ (["may_enter", "post", "spots", "lines_upto", "figures", "closed", "close", "reopen", "entries", "told_papers", "standing"] : List Str), (putF "in_force" c (putF "papers" b (putF "kept" a (putF "book" (.str f) [])))).lookup m = none := by
 intro m hm
 have h1 : ¬ m = ("in_force" : Str) := fun z => by subst z; exact absurd hm (by decide +kernel)
 have h2 : ¬ m = ("papers" : Str) := fun z => by subst z; exact absurd hm (by decide +kernel)
 have h3 : ¬ m = ("kept" : Str) := fun z => by subst z; exact absurd hm (by decide +kernel)
 have h4 : ¬ m = ("book" : Str) := fun z => by subst z; exact absurd hm (by decide +kernel)
 rw [lookup_putF, if_neg h1, lookup_putF, if_neg h2, lookup_putF, if_neg h3, lookup_putF, if_neg h4]
 rfl
abbrev s_Book___init__B : Stmt := inClass (top 13) 0
theorem sc_Book___init__B : FnScope ["self", "firm"] ["self", "firm"] (defScope s_Book___init__B) := ⟨rfl, rfl, rfl, by decide +kernel, rfl, by decide +kernel, by decide +kernel⟩
theorem ok_Book___init__B {C_Book C_KeptBook : Addr} (cl_KeptBook : Cls K C_KeptBook) (n_book : NoAttr K C_KeptBook "book") (n_kept : NoAttr K C_KeptBook "kept") (n_papers : NoAttr K C_KeptBook "papers") (n_in_force : NoAttr K C_KeptBook "in_force") (D : DefB K C_Book "__init__" "Book.__init__" s_Book___init__B) : CalB P w K mg base cm 1 C_Book "__init__" ["self", "firm"] (spBI C_KeptBook) := by
 obtain ⟨f, fd, F, hfc, hkp⟩ := D
 refine ⟨f, fd, F.ok sc_Book___init__B (fun vs H Q E h => ?_) (fun cdv A outer s H vs Q E hr h => ?_), hfc, hkp, (F.binds fun _ _ _ _ _ _ us hl => match us, hl with | [_, _], _ => rfl)⟩
 · obtain ⟨p, dx, f, rfl, hp, q⟩ := h
   rfl
 obtain ⟨p, dx, f, rfl, hp, q⟩ := h
 have nd := sc_Book___init__B.nd
 refine ⟨_, (pss_cons (ps_fld (pv 0) (pv 1) rfl)
   (pss_one (ps_fld (pv 0) (pe_lst pa_nil) rfl))), ?_⟩
 refine ⟨_, rfl, _, rfl, p, C_KeptBook, dx, [], rfl, hp, cl_KeptBook, n_book, (by show 0 < 1000; decide), (by show 0 ≤ sizeLine; decide), fun d hd => ?_⟩
 have npd : p ≠ d := ne_of_none upd_same hd
 have hd0 : H d = none := by
   rw [upd_ne (Ne.symm npd)] at hd
   exact hd
 refine ⟨_, rfl, p, C_KeptBook, dx, _, rfl, (by rw [upd_ne npd]; exact upd_same), cl_KeptBook, n_kept, (by show 1 < 1000; decide), ?_⟩
 refine q d _ hd0 upd_same ?_ fun b o e hb => ?_
 · rw [upd_ne (Ne.symm npd), upd_same]
 · rw [upd_ne hb, upd_ne (ne_of_none e hd0), upd_ne hb]
   exact e
abbrev s_KeptBook___init__ : Stmt := inClass (top 16) 0
theorem sc_KeptBook___init__ : FnScope ["self", "firm"] ["self", "firm"] (defScope s_KeptBook___init__) := ⟨rfl, rfl, rfl, by decide +kernel, rfl, by decide +kernel, by decide +kernel⟩
theorem ok_KeptBook___init__ {C_KeptBook : Addr} (D : DefI K C_KeptBook "KeptBook.__init__" s_KeptBook___init__ .none) {C_Book : Addr} (c_Book___init__B : CalB P w K mg base true 1 C_Book "__init__" ["self", "firm"] (spBI C_KeptBook)) (m_Book : mg "Book" = some (.ref C_Book)) (cl_KeptBook : Cls K C_KeptBook) (n_book : NoAttr K C_KeptBook "book") (n_kept : NoAttr K C_KeptBook "kept") (n_papers : NoAttr K C_KeptBook "papers") (n_in_force : NoAttr K C_KeptBook "in_force") (q_bga : PySem.W.specialIn K (.ref C_Book) "__getattribute__" = some (some (.builtin "type.__getattribute__"))) (q_brd : PySem.W.readsIn K C_Book (.type "type") = true) : CalI P w K mg base CX0 true 2 C_KeptBook ["self", "firm"] [] (spKI C_KeptBook) := by
 obtain ⟨f, fd, F, hm⟩ := D
 obtain ⟨f_Book___init__B, fd_Book___init__B, G_Book___init__B, h_Book___init__B, k_Book___init__B, b_Book___init__B⟩ := c_Book___init__B
 refine ⟨f, fd, _, F.ok sc_KeptBook___init__ (fun vs H Q E h => ?_) (fun cdv A outer s H vs Q E hr h => ?_), hm, (F.binds fun _ _ _ _ _ _ us hl => match us, hl with | [_, _], _ => rfl), .nil, F.binds fun _ _ _ _ _ _ us hl => match us, hl with | [_, _], _ => rfl⟩
 · obtain ⟨p, dx, f, rfl, hp, q⟩ := h
   rfl
 obtain ⟨p, dx, f, rfl, hp, q⟩ := h
 have nd := sc_KeptBook___init__.nd
 refine ⟨_, (pss_cons (ps_expr (pe_clsC rfl m_Book q_bga q_brd h_Book___init__B rfl G_Book___init__B (hr.mono (by decide)) k_Book___init__B b_Book___init__B Paired.nil pass0 (pa_cons (pv 0) (pa_cons (pv 1) pa_nil))))
   (pss_cons (ps_fld (pv 0) (pe_lst pa_nil) rfl)
   (pss_one (ps_fld (pv 0) (pe_lst pa_nil) rfl)))), ?_⟩
 refine ⟨_, rfl, _, rfl, p, dx, f, rfl, hp, fun kl H1 hk0 hp1 hk1 k1 => ?_⟩
 have npk : p ≠ kl := ne_of_none hp hk0
 refine ⟨(by show 0 ≤ sizeLine; decide), fun pl hpl => ?_⟩
 have npp : p ≠ pl := ne_of_none hp1 hpl
 have nkp : kl ≠ pl := ne_of_none hk1 hpl
 refine ⟨_, rfl, p, C_KeptBook, dx, _, rfl, (by rw [upd_ne npp]; exact hp1), cl_KeptBook, n_papers, (by show 2 < 1000; decide), ?_⟩
 refine ⟨(by show 0 ≤ sizeLine; decide), fun fl hfl => ?_⟩
 have npf : p ≠ fl := ne_of_none upd_same hfl
 have hfl1 : upd H1 pl (.lst []) fl = none := by
   rw [upd_ne (Ne.symm npf)] at hfl
   exact hfl
 have nkf : kl ≠ fl := fun w => by
   rw [← w, upd_ne nkp, hk1] at hfl1
   cases hfl1
 have nplf : pl ≠ fl := ne_of_none upd_same hfl1
 have hfl2 : H1 fl = none := by
   rw [upd_ne (Ne.symm nplf)] at hfl1
   exact hfl1
 refine ⟨_, rfl, p, C_KeptBook, dx, _, rfl, (by rw [upd_ne npf]; exact upd_same), cl_KeptBook, n_in_force, (by show 3 < 1000; decide), ?_⟩
 have fr : ∀ b, H1 b = none → H b = none := fun b h => by
   cases hb : H b with
   | none => rfl
   | some o =>
     by_cases n : b = p
     · rw [n, hp1] at h
       cases h
     · rw [k1 b o hb n] at h
       cases h
 refine q kl pl fl _ hk0 (fr pl hpl) (fr fl hfl2) nkp nkf nplf ⟨dx, _, upd_same, pf_book .., pf_kept .., pf_papers .., pf_force .., pf_no _ _ _ _⟩ ?_ ?_ ?_ fun b o e hb => ?_
 · rw [upd_ne (Ne.symm npk), upd_ne nkf, upd_ne (Ne.symm npk), upd_ne nkp]
   exact hk1
 · rw [upd_ne (Ne.symm npp), upd_ne nplf, upd_ne (Ne.symm npp)]
   exact upd_same
 · rw [upd_ne (Ne.symm npf)]
   exact upd_same
 · have h1 := k1 b o e hb
   rw [upd_ne hb, upd_ne (ne_of_none h1 hfl2), upd_ne hb, upd_ne (ne_of_none h1 hpl)]
   exact h1
theorem cut_nat (ns : List Int) (i j : Nat) : (cutV (ns.map V.int) (some (i : Int)) (some (j : Int))).length = min j ns.length - min i ns.length := by
 unfold cutV
 rw [List.length_take, List.length_drop, List.length_map, HT.sIx_nat, HT.sIx_nat]
 omega
def put {α : Type} (f : Nat → α) (j : Nat) (v : α) : Nat → α := fun i => if i = j then v else f i
theorem put_at {α : Type} (f : Nat → α) (j : Nat) (v : α) : put f j v j = v := if_pos rfl
theorem put_ne {α : Type} {f : Nat → α} {i j : Nat} {v : α} (h : i ≠ j) : put f j v i = f i := if_neg h
theorem twoj {j : Nat} (h : j < 2) : j = 0 ∨ j = 1 := by omega
theorem at2j {α : Type} (f : Nat → α) {j : Nat} (h : j < 2) : atI [f 0, f 1] (j : Int) = some (f j) := by
 rcases twoj h with rfl | rfl <;> exact atI_nat rfl
theorem nod_cons {S : List Addr} {H : Hp} {b : Addr} (n : S.Nodup) (s : SixL S H) (h : H b = none) : (b :: S).Nodup := List.nodup_cons.mpr ⟨s.fre h, n⟩
theorem mkB {S : List Addr} {H H' : Hp} {p dx kl pl fl C : Addr} (s : SixL S H) (n : S.Nodup) (hdx : H dx = none) (hp : H p = none) (k0 : upd (upd H dx (.own p)) p (.ins C dx []) kl = none) (p0 : upd (upd H dx (.own p)) p (.ins C dx []) pl = none) (f0 : upd (upd H dx (.own p)) p (.ins C dx []) fl = none) (n1 : kl ≠ pl) (n2 : kl ≠ fl) (n3 : pl ≠ fl) (hk : H' kl = some (.lst [])) (hpl : H' pl = some (.lst [])) (hfl : H' fl = some (.lst [])) (kp : ∀ b o, upd (upd H dx (.own p)) p (.ins C dx []) b = some o → b ≠ p → H' b = some o) :
   Same H H' ∧ SixL (fl :: pl :: kl :: S) H' ∧ (fl :: pl :: kl :: S).Nodup ∧ H kl = none ∧ H pl = none ∧ H fl = none := by
 have e : Same H H' := fun b o h => kp b o (by rw [upd_ne (some_ne h hp), upd_ne (some_ne h hdx)]; exact h) (some_ne h hp)
 have fr : ∀ b, upd (upd H dx (.own p)) p (.ins C dx []) b = none → H b = none := fun b h => by
   cases hb : H b with
   | none => rfl
   | some o =>
     rw [upd_ne (some_ne hb hp), upd_ne (some_ne hb hdx), hb] at h
     cases h
 have a1 := s.fre (fr kl k0)
 have a2 := s.fre (fr pl p0)
 have a3 := s.fre (fr fl f0)
 refine ⟨e, SixL.cons (SixL.cons (SixL.cons (s.same e) hk) hpl) hfl, ?_, fr kl k0, fr pl p0, fr fl f0⟩
 refine List.nodup_cons.mpr ⟨?_, List.nodup_cons.mpr ⟨?_, List.nodup_cons.mpr ⟨a1, n⟩⟩⟩
 · simp only [List.mem_cons, not_or]
   exact ⟨Ne.symm n3, Ne.symm n2, a3⟩
 · simp only [List.mem_cons, not_or]
   exact ⟨Ne.symm n1, a2⟩
theorem mk4 {S : List Addr} {H : Hp} {r t u st : Addr} {f : Str} (s : SixL S H) (n : S.Nodup) (hr : H r = none) (ht : upd H r (.lst []) t = none) (hu : upd (upd H r (.lst [])) t (.lst []) u = none) (hs : upd (upd (upd H r (.lst [])) t (.lst [])) u (.lst []) st = none) :
   ∃ H', H' = upd (upd (upd (upd H r (.lst [])) t (.lst [])) u (.lst [])) st (.tup [.str f, .ref r, .ref t, .ref u]) ∧ Same H H' ∧ SixL (u :: t :: r :: S) H' ∧ (u :: t :: r :: S).Nodup ∧ H' r = some (.lst []) ∧ H' t = some (.lst []) ∧ H' u = some (.lst []) ∧ H' st = some (.tup [.str f, .ref r, .ref t, .ref u]) ∧ H r = none ∧ H t = none ∧ H u = none := by
 have e1 := same_upd (o := .lst []) hr
 have e2 := same_upd (o := .lst []) ht
 have e3 := same_upd (o := .lst []) hu
 have e4 := same_upd (o := .tup [.str f, .ref r, .ref t, .ref u]) hs
 have s1 : SixL (r :: S) (upd H r (.lst [])) := SixL.cons (s.same e1) upd_same
 have s2 : SixL (t :: r :: S) (upd (upd H r (.lst [])) t (.lst [])) := SixL.cons (s1.same e2) upd_same
 have s3 : SixL (u :: t :: r :: S) (upd (upd (upd H r (.lst [])) t (.lst [])) u (.lst [])) := SixL.cons (s2.same e3) upd_same
 exact ⟨_, rfl, ((e1.trans e2).trans e3).trans e4, s3.same e4, nod_cons (nod_cons (nod_cons n s hr) s1 ht) s2 hu, e4 _ _ (e3 _ _ (e2 _ _ upd_same)), e4 _ _ (e3 _ _ upd_same), e4 _ _ upd_same, upd_same, hr, e1.free ht, (e1.trans e2).free hu⟩
structure Sx (S : List Addr) (ad : Nat → Ad) (hl : Addr) : Prop where
 sub : ∀ j, j < 2 → ∀ b ∈ six (ad j), b ∈ S
 nod : ∀ j, j < 2 → (six (ad j)).Nodup
 dis : ∀ j m, j < 2 → m < 2 → j ≠ m → ∀ b ∈ six (ad m), b ∉ six (ad j)
 hin : hl ∈ S
 hnt : ∀ j, j < 2 → hl ∉ six (ad j)
theorem sx_mk {h u1 t1 r1 u0 t0 r0 f1 p1 k1 f0 p0 k0 b0 b1 : Addr} {x y : Str} (n : [h, u1, t1, r1, u0, t0, r0, f1, p1, k1, f0, p0, k0].Nodup) : Sx [h, u1, t1, r1, u0, t0, r0, f1, p1, k1, f0, p0, k0] (fun j => match j with | 0 => ⟨b0, k0, p0, f0, r0, t0, u0, x⟩ | _ => ⟨b1, k1, p1, f1, r1, t1, u1, y⟩) h := by
 simp only [List.nodup_cons, List.mem_cons, List.not_mem_nil, or_false, not_or, List.nodup_nil, and_true, not_false_eq_true] at n
 obtain ⟨⟨a1, a2, a3, a4, a5, a6, a7, a8, a9, a10, a11, a12⟩, ⟨b2, b3, b4, b5, b6, b7, b8, b9, b10, b11, b12⟩, ⟨c3, c4, c5, c6, c7, c8, c9, c10, c11, c12⟩, ⟨d4, d5, d6, d7, d8, d9, d10, d11, d12⟩, ⟨e5, e6, e7, e8, e9, e10, e11, e12⟩, ⟨f6, f7, f8, f9, f10, f11, f12⟩, ⟨g7, g8, g9, g10, g11, g12⟩, ⟨h8, h9, h10, h11, h12⟩, ⟨i9, i10, i11, i12⟩, ⟨j10, j11, j12⟩, ⟨k11, k12⟩, l12⟩ := n
 refine ⟨fun j hj b hb => ?_, fun j hj => ?_, fun j m hj hm hne b hb => ?_, List.mem_cons_self, fun j hj => ?_⟩
 · rcases twoj hj with rfl | rfl <;> simp only [six, List.mem_cons, List.not_mem_nil, or_false] at hb ⊢ <;> rcases hb with rfl | rfl | rfl | rfl | rfl | rfl <;> simp
 · rcases twoj hj with rfl | rfl <;> simp only [six, List.nodup_cons, List.mem_cons, List.not_mem_nil, or_false, not_or, List.nodup_nil, and_true, not_false_eq_true]
   · exact ⟨⟨Ne.symm l12, Ne.symm k12, Ne.symm g12, Ne.symm f12, Ne.symm e12⟩, ⟨Ne.symm k11, Ne.symm g11, Ne.symm f11, Ne.symm e11⟩, ⟨Ne.symm g10, Ne.symm f10, Ne.symm e10⟩, ⟨Ne.symm f6, Ne.symm e6⟩, Ne.symm e5⟩
   · exact ⟨⟨Ne.symm i9, Ne.symm h9, Ne.symm d9, Ne.symm c9, Ne.symm b9⟩, ⟨Ne.symm h8, Ne.symm d8, Ne.symm c8, Ne.symm b8⟩, ⟨Ne.symm d7, Ne.symm c7, Ne.symm b7⟩, ⟨Ne.symm c3, Ne.symm b3⟩, Ne.symm b2⟩
 · rcases twoj hj with rfl | rfl <;> rcases twoj hm with rfl | rfl
   · exact absurd rfl hne
   · simp only [six, List.mem_cons, List.not_mem_nil, or_false, not_or] at hb ⊢
     rcases hb with rfl | rfl | rfl | rfl | rfl | rfl
     · exact ⟨j12, j11, j10, Ne.symm g9, Ne.symm f9, Ne.symm e9⟩
     · exact ⟨i12, i11, i10, Ne.symm g8, Ne.symm f8, Ne.symm e8⟩
     · exact ⟨h12, h11, h10, Ne.symm g7, Ne.symm f7, Ne.symm e7⟩
     · exact ⟨d12, d11, d10, d6, d5, d4⟩
     · exact ⟨c12, c11, c10, c6, c5, c4⟩
     · exact ⟨b12, b11, b10, b6, b5, b4⟩
   · simp only [six, List.mem_cons, List.not_mem_nil, or_false, not_or] at hb ⊢
     rcases hb with rfl | rfl | rfl | rfl | rfl | rfl
     · exact ⟨Ne.symm j12, Ne.symm i12, Ne.symm h12, Ne.symm d12, Ne.symm c12, Ne.symm b12⟩
     · exact ⟨Ne.symm j11, Ne.symm i11, Ne.symm h11, Ne.symm d11, Ne.symm c11, Ne.symm b11⟩
     · exact ⟨Ne.symm j10, Ne.symm i10, Ne.symm h10, Ne.symm d10, Ne.symm c10, Ne.symm b10⟩
     · exact ⟨g9, g8, g7, Ne.symm d6, Ne.symm c6, Ne.symm b6⟩
     · exact ⟨f9, f8, f7, Ne.symm d5, Ne.symm c5, Ne.symm b5⟩
     · exact ⟨e9, e8, e7, Ne.symm d4, Ne.symm c4, Ne.symm b4⟩
   · exact absurd rfl hne
 · rcases twoj hj with rfl | rfl <;> simp only [six, List.mem_cons, List.not_mem_nil, or_false, not_or]
   · exact ⟨a12, a11, a10, a6, a5, a4⟩
   · exact ⟨a9, a8, a7, a3, a2, a1⟩
structure Jt (C : Addr) (S : List Addr) (x y z : Str) (H0 H : Hp) (ad : Nat → Ad) (c : Nat → Ct) (hl : Addr) (HL : List Hl) (n : Nat) : Prop where
 s : SixL S H
 b : ∀ j, j < 2 → BkO C S x y z H (ad j) (c j)
 l : ∀ j, j < 2 → BkL H (ad j) (c j)
 n : ∀ j, j < 2 → (c j).E.length ≤ n ∧ (c j).G.length ≤ n ∧ (c j).U.length ≤ n
 h : H hl = some (.lst (rfH HL))
 o : ∀ w ∈ HL, HlO H w ∧ HlS S w
 k : ∀ b o, H0 b = some o → b ∉ S → H b = some o
theorem Jt.same {C : Addr} {S : List Addr} {x y z : Str} {H0 H H' : Hp} {ad : Nat → Ad} {c : Nat → Ct} {hl : Addr} {HL : List Hl} {n : Nat} (J : Jt C S x y z H0 H ad c hl HL n) (e : Same H H') : Jt C S x y z H0 H' ad c hl HL n :=
 ⟨J.s.same e, fun j hj => (J.b j hj).same J.s e, fun j hj => (J.l j hj).same e, J.n, e _ _ J.h, fun w hw => ⟨(J.o w hw).1.keep J.s (fun b o h _ => e b o h) (J.o w hw).2, (J.o w hw).2⟩, fun b o h m => e _ _ (J.k b o h m)⟩
theorem Jt.step {C : Addr} {S : List Addr} {x y z : Str} {H0 H H' : Hp} {ad : Nat → Ad} {c : Nat → Ct} {hl : Addr} {HL : List Hl} {n j : Nat} {c' : Ct} (X : Sx S ad hl) (hj : j < 2) (J : Jt C S x y z H0 H ad c hl HL n) (kp : ∀ b o, H b = some o → b ∉ six (ad j) → H' b = some o) (B : BkO C S x y z H' (ad j) c') (l : BkL H' (ad j) c') (l1 : c'.E.length ≤ (c j).E.length + 1) (l2 : c'.G.length ≤ (c j).G.length + 1) (l3 : c'.U.length ≤ (c j).U.length + 1) : Jt C S x y z H0 H' ad (put c j c') hl HL (n + 1) := by
 have kS : ∀ b o, H b = some o → b ∉ S → H' b = some o := fun b o h m => kp b o h (fun q => m (X.sub j hj b q))
 refine ⟨fun b hb => ?_, fun m hm => ?_, fun m hm => ?_, fun m hm => ?_, kp _ _ J.h (X.hnt j hj), fun w hw => ⟨(J.o w hw).1.keep J.s kS (J.o w hw).2, (J.o w hw).2⟩, fun b o h m => kS b o (J.k b o h m) m⟩
 · obtain ⟨xs, hx⟩ := J.s b hb
   by_cases q : b ∈ six (ad j)
   · simp only [six, List.mem_cons, List.not_mem_nil, or_false] at q
     rcases q with q | q | q | q | q | q <;> rw [q]
     · exact ⟨_, l.k⟩
     · exact ⟨_, l.p⟩
     · exact ⟨_, l.f⟩
     · exact ⟨_, l.r⟩
     · exact ⟨_, l.t⟩
     · exact ⟨_, l.u⟩
   · exact ⟨xs, kp b _ hx q⟩
 · by_cases e : m = j
   · subst e
     rw [put_at]
     exact B
   · rw [put_ne e]
     exact (J.b m hm).keep J.s kS
 · by_cases e : m = j
   · subst e
     rw [put_at]
     exact l
   · rw [put_ne e]
     have d := X.dis j m hj hm (Ne.symm e)
     have q := J.l m hm
     exact ⟨kp _ _ q.k (d _ (by simp [six])), kp _ _ q.p (d _ (by simp [six])), kp _ _ q.f (d _ (by simp [six])), kp _ _ q.r (d _ (by simp [six])), kp _ _ q.t (d _ (by simp [six])), kp _ _ q.u (d _ (by simp [six]))⟩
 · have q := J.n m hm
   by_cases e : m = j
   · subst e
     rw [put_at]
     exact ⟨by omega, by omega, by omega⟩
   · rw [put_ne e]
     exact ⟨by omega, by omega, by omega⟩
theorem Jt.look {C : Addr} {S : List Addr} {x y z : Str} {H0 H H' : Hp} {ad : Nat → Ad} {c : Nat → Ct} {hl : Addr} {HL N : List Hl} {n : Nat} (X : Sx S ad hl) (J : Jt C S x y z H0 H ad c hl HL n) (kp : KP hl H H') (h : H' hl = some (.lst (rfH HL ++ rfH N))) (hN : ∀ w ∈ N, HlO H' w ∧ HlF H w) : Jt C S x y z H0 H' ad c hl (HL ++ N) n := by
 have kS : ∀ b o, H b = some o → b ∉ S → H' b = some o := fun b o h m => kp b o h (fun e => m (by rw [e]; exact X.hin))
 refine ⟨fun b hb => ?_, fun m hm => (J.b m hm).keep J.s kS, fun m hm => ?_, J.n, by rw [rfH_app]; exact h, fun w hw => ?_, fun b o h m => kS b o (J.k b o h m) m⟩
 · obtain ⟨xs, hx⟩ := J.s b hb
   by_cases q : b = hl
   · rw [q]
     exact ⟨_, h⟩
   · exact ⟨xs, kp b _ hx q⟩
 · have d : ∀ b ∈ six (ad m), b ≠ hl := fun b hb e => X.hnt m hm (by rw [← e]; exact hb)
   have q := J.l m hm
   exact ⟨kp _ _ q.k (d _ (by simp [six])), kp _ _ q.p (d _ (by simp [six])), kp _ _ q.f (d _ (by simp [six])), kp _ _ q.r (d _ (by simp [six])), kp _ _ q.t (d _ (by simp [six])), kp _ _ q.u (d _ (by simp [six]))⟩
 · rcases List.mem_append.mp hw with m | m
   · exact ⟨(J.o w m).1.keep J.s kS (J.o w m).2, (J.o w m).2⟩
   · exact ⟨(hN w m).1, (hN w m).2.s J.s⟩
theorem sc_law : FnScope ["_law_script", "_law_names_here", "_law_books", "_law_states", "_law_held", "_law_k", "_law_cells", "_law_at", "_law_which", "_law_found", "_law_due", "_law_firm", "_law_rows", "_law_told", "_law_up"] ["_law_script"] (defScope s_law) := ⟨rfl, rfl, rfl, by decide +kernel, rfl, by decide +kernel, by decide +kernel⟩
theorem ok_law {f : Addr} {fd : FuncData} (F : FunD K "law" "law" s_law f fd .none) {C_KeptBook : Addr} (c__law_names : Cal P w K mg base CX0 true 1 "_law_names" ["_law_cell_here"] [] spNames) (c__law_cell : Cal P w K mg base CX0 true 1 "_law_cell" ["_law_script", "_law_k"] [] (spCell K)) (c_KeptBook___init__ : CalI P w K mg base CX0 true 2 C_KeptBook ["self", "firm"] [] (spKI C_KeptBook)) (c__law_step : Cal P w K mg base CX0 true 6 "_law_step" ["_law_book", "_law_names_here", "_law_state", "_law_cells"] [] (spStep C_KeptBook)) (c__law_look : Cal P w K mg base CX0 true 4 "_law_look" ["_law_book", "_law_told", "_law_up", "_law_way", "_law_held"] [] (spLook C_KeptBook)) (c__law_papers : Cal P w K mg base CX0 true 3 "_law_papers" ["_law_found", "_law_due"] [] spPapers) (c__law_end : Cal P w K mg base CX0 true 6 "_law_end" ["_law_book", "_law_state"] [] (spEnd C_KeptBook)) (z_range : mg "range" = none) (z_len : mg "len" = none) (m_KeptBook : mg "KeptBook" = some (.ref C_KeptBook)) (cl_KeptBook : Cls K C_KeptBook) : FnOk P w K mg base CX0 true 8 f fd ["_law_script"] (spLaw K) := by
 obtain ⟨f__law_names, fd__law_names, d__law_names, G__law_names, m__law_names, k__law_names, b__law_names, v__law_names, b__law_names1⟩ := c__law_names
 obtain ⟨f__law_cell, fd__law_cell, d__law_cell, G__law_cell, m__law_cell, k__law_cell, b__law_cell, v__law_cell, b__law_cell1⟩ := c__law_cell
 obtain ⟨f_KeptBook___init__, fd_KeptBook___init__, d_KeptBook___init__, G_KeptBook___init__, M_KeptBook, b_KeptBook___init__, v_KeptBook___init__, b_KeptBook___init__1⟩ := c_KeptBook___init__
 obtain ⟨f__law_step, fd__law_step, d__law_step, G__law_step, m__law_step, k__law_step, b__law_step, v__law_step, b__law_step1⟩ := c__law_step
 obtain ⟨f__law_look, fd__law_look, d__law_look, G__law_look, m__law_look, k__law_look, b__law_look, v__law_look, b__law_look1⟩ := c__law_look
 obtain ⟨f__law_papers, fd__law_papers, d__law_papers, G__law_papers, m__law_papers, k__law_papers, b__law_papers, v__law_papers, b__law_papers1⟩ := c__law_papers
 obtain ⟨f__law_end, fd__law_end, d__law_end, G__law_end, m__law_end, k__law_end, b__law_end, v__law_end, b__law_end1⟩ := c__law_end
 refine F.ok sc_law (fun vs H Q E h => ?_) (fun cdv A outer s H vs Q E hr h => ?_)
 · obtain ⟨a, ns, rfl, hS, hlen, hb, q⟩ := h
   rfl
 obtain ⟨a, ns, rfl, hS, hlen, hb, q⟩ := h
 have nd := sc_law.nd
 refine ⟨_, (pss_cons (ps_set (i := 1) nd rfl (Or.inl rfl) (pe_call G__law_names (hr.mono (by decide)) rfl m__law_names k__law_names b__law_names Paired.nil pass0 (pa_cons (pe_call G__law_cell (hr.mono (by decide)) rfl m__law_cell k__law_cell b__law_cell Paired.nil pass0 (pa_cons (pv 0) (pa_cons pe_int pa_nil))) pa_nil)))
   (pss_cons (ps_set (i := 2) nd rfl (Or.inl rfl) (pe_lst (pa_cons (pe_make M_KeptBook G_KeptBook___init__ (hr.mono (by decide)) rfl m_KeptBook b_KeptBook___init__ Paired.nil pass0 (pa_cons (pe_ix ix_seq (pv 1) pe_int (fun _ _ => rfl)) pa_nil)) (pa_cons (pe_make M_KeptBook G_KeptBook___init__ (hr.mono (by decide)) rfl m_KeptBook b_KeptBook___init__ Paired.nil pass0 (pa_cons (pe_ix ix_seq (pv 1) pe_int (fun _ _ => rfl)) pa_nil)) pa_nil))))
   (pss_cons (ps_set (i := 3) nd rfl (Or.inl rfl) (pe_lst (pa_cons (pe_tup (pa_cons (pe_ix ix_seq (pv 1) pe_int (fun _ _ => rfl)) (pa_cons (pe_lst pa_nil) (pa_cons (pe_lst pa_nil) (pa_cons (pe_lst pa_nil) pa_nil))))) (pa_cons (pe_tup (pa_cons (pe_ix ix_seq (pv 1) pe_int (fun _ _ => rfl)) (pa_cons (pe_lst pa_nil) (pa_cons (pe_lst pa_nil) (pa_cons (pe_lst pa_nil) pa_nil))))) pa_nil))))
   (pss_cons (ps_set (i := 4) nd rfl (Or.inl rfl) (pe_lst pa_nil))
   (pss_cons (ps_for PassesOwn.never rfl (pi_range1 rfl z_range (pa_cons (pe_op op_fdiv (pe_callB call_len_seq rfl z_len bt_len (pa_cons (pe_slice sl_list (pv 0) (po_some pe_int) (po_some pe_int)) pa_nil)) pe_int) pa_nil)) (pg_name (i := 5) nd rfl (Or.inl rfl)) (pss_cons (ps_set (i := 6) nd rfl (Or.inl rfl) (pe_slice sl_list (pv 0) (po_some (pe_op op_add pe_int (pe_op op_mulB pe_int (pv 5)))) (po_some (pe_op op_add pe_int (pe_op op_mulB pe_int (pv 5))))))
   (pss_cons (ps_set (i := 7) nd rfl (Or.inl rfl) (pe_op op_mod (pe_ix ix_seq (pv 6) pe_int (fun _ _ => rfl)) pe_int))
   (pss_cons (ps_if (pt_not (pt_val (pe_call G__law_step (hr.mono (by decide)) rfl m__law_step k__law_step b__law_step Paired.nil pass0 (pa_cons (pe_ix ix_seq (pv 2) (pv 7) (fun _ _ => rfl)) (pa_cons (pv 1) (pa_cons (pe_ix ix_seq (pv 3) (pv 7) (fun _ _ => rfl)) (pa_cons (pv 6) pa_nil))))))) (pss_one (ps_ret pe_bl)) pss_nil)
   (pss_one (ps_for PassesOwn.never rfl (pi_list (pe_lst (pa_cons (pv 7) (pa_cons (pe_op op_sub pe_int (pv 7)) pa_nil)))) (pg_name (i := 8) nd rfl (Or.inl rfl)) (pss_cons (ps_asg (pe_ix ix_seq (pv 3) (pv 8) (fun _ _ => rfl)) (pg_tup rfl (pgs_cons (pg_name (i := 11) nd rfl (Or.inl rfl)) (pgs_cons (pg_name (i := 12) nd rfl (Or.inl rfl)) (pgs_cons (pg_name (i := 13) nd rfl (Or.inl rfl)) (pgs_cons (pg_name (i := 14) nd rfl (Or.inl rfl)) pgs_nil))))))
   (pss_one (ps_if (pt_not (pt_val (pe_call G__law_look (hr.mono (by decide)) rfl m__law_look k__law_look b__law_look Paired.nil pass0 (pa_cons (pe_ix ix_seq (pv 2) (pv 8) (fun _ _ => rfl)) (pa_cons (pv 13) (pa_cons (pv 14) (pa_cons (pe_op op_mod (pe_op op_fdiv (pe_ix ix_seq (pv 6) pe_int (fun _ _ => rfl)) pe_int) pe_int) (pa_cons (pv 4) pa_nil)))))))) (pss_one (ps_ret pe_bl)) pss_nil)))))))))
   (pss_cons (ps_for PassesOwn.never rfl (pi_list (pv 4)) (pg_tup rfl (pgs_cons (pg_name (i := 9) nd rfl (Or.inl rfl)) (pgs_cons (pg_name (i := 10) nd rfl (Or.inl rfl)) pgs_nil))) (pss_one (ps_if (pt_not (pt_val (pe_call G__law_papers (hr.mono (by decide)) rfl m__law_papers k__law_papers b__law_papers Paired.nil pass0 (pa_cons (pv 9) (pa_cons (pv 10) pa_nil))))) (pss_one (ps_ret pe_bl)) pss_nil)))
   (pss_one (ps_ret (pe_and (pe_call G__law_end (hr.mono (by decide)) rfl m__law_end k__law_end b__law_end Paired.nil pass0 (pa_cons (pe_ix ix_seq (pv 2) pe_int (fun _ _ => rfl)) (pa_cons (pe_ix ix_seq (pv 3) pe_int (fun _ _ => rfl)) pa_nil))) (pe_one (pe_call G__law_end (hr.mono (by decide)) rfl m__law_end k__law_end b__law_end Paired.nil pass0 (pa_cons (pe_ix ix_seq (pv 2) pe_int (fun _ _ => rfl)) (pa_cons (pe_ix ix_seq (pv 3) pe_int (fun _ _ => rfl)) pa_nil))))))))))))), ?_⟩
 have hline : 600 ≤ sizeLine := by decide
 refine ⟨_, rfl, a, ns, 0, rfl, hS, _, rfl, fun nl x y z H1 e1 hn hxy lx ly lz => ?_⟩
 refine ⟨_, rfl, .inl ⟨nl, _, 0, _, rfl, rfl, SqL.of hn, rfl, fun b0 dx0 hp0 hdx0 hdp0 => ?_⟩⟩
 refine ⟨b0, dx0, x, rfl, upd_same, fun k0 p0 f0 H2 hk0 hpl0 hf0 nkp0 nkf0 npf0 kb0 ok0 op0 of0 kp0 => ⟨rfl, ?_⟩⟩
 obtain ⟨e2, s2, m2, i1, i2, i3⟩ := mkB (S := []) (fun b hb => nomatch hb) List.nodup_nil hdx0 hp0 hk0 hpl0 hf0 nkp0 nkf0 npf0 ok0 op0 of0 kp0
 clear hk0 hpl0 hf0 kp0 hdp0
 refine ⟨_, rfl, .inl ⟨nl, _, 1, _, rfl, rfl, SqL.of (e2 _ _ hn), rfl, fun b1 dx1 hp1 hdx1 hdp1 => ?_⟩⟩
 refine ⟨b1, dx1, y, rfl, upd_same, fun k1 p1 f1 H3 hk1 hpl1 hf1 nkp1 nkf1 npf1 kb1 ok1 op1 of1 kp1 => ⟨rfl, ?_⟩⟩
 obtain ⟨e3, s3, m3, i4, i5, i6⟩ := mkB s2 m2 hdx1 hp1 hk1 hpl1 hf1 nkp1 nkf1 npf1 ok1 op1 of1 kp1
 clear hk1 hpl1 hf1 kp1 hdp1
 refine ⟨(by show 2 ≤ sizeLine; decide), fun bl hbl0 => ?_⟩
 have e4 := same_upd (o := .lst [.ref b0, .ref b1]) hbl0
 have hbl : upd H3 bl (.lst [.ref b0, .ref b1]) bl = some (.lst [.ref b0, .ref b1]) := upd_same
 generalize upd H3 bl (.lst [.ref b0, .ref b1]) = H4 at e4 hbl ⊢
 have s4 := s3.same e4
 have e14 := (e2.trans e3).trans e4
 refine ⟨_, rfl, .inl ⟨nl, _, 0, _, rfl, rfl, SqL.of (e14 _ _ hn), rfl, (by show 0 ≤ sizeLine; decide), fun r0 hr0 => ⟨(by show 0 ≤ sizeLine; decide), fun t0 ht0 => ⟨(by show 0 ≤ sizeLine; decide), fun u0 hu0 => ⟨(by show 4 ≤ sizeLine; decide), fun st0 hs0 => ?_⟩⟩⟩⟩⟩
 obtain ⟨H5, hH5, e5, s5, m5, or0, ot0, ou0, os0, j1, j2, j3⟩ := mk4 (f := x) s4 m3 hr0 ht0 hu0 hs0
 rw [← hH5]
 clear hH5 hr0 ht0 hu0 hs0
 have e15 := e14.trans e5
 refine ⟨_, rfl, .inl ⟨nl, _, 1, _, rfl, rfl, SqL.of (e15 _ _ hn), rfl, (by show 0 ≤ sizeLine; decide), fun r1 hr1 => ⟨(by show 0 ≤ sizeLine; decide), fun t1 ht1 => ⟨(by show 0 ≤ sizeLine; decide), fun u1 hu1 => ⟨(by show 4 ≤ sizeLine; decide), fun st1 hs1 => ⟨(by show 2 ≤ sizeLine; decide), fun sl hsl0 => ?_⟩⟩⟩⟩⟩⟩
 obtain ⟨H6, hH6, e6, s6, m6, or1, ot1, ou1, os1, j4, j5, j6⟩ := mk4 (f := y) s5 m5 hr1 ht1 hu1 hs1
 rw [← hH6] at hsl0 ⊢
 clear hH6 hr1 ht1 hu1 hs1
 have e7 := same_upd (o := .lst [.ref st0, .ref st1]) hsl0
 have hsl : upd H6 sl (.lst [.ref st0, .ref st1]) sl = some (.lst [.ref st0, .ref st1]) := upd_same
 generalize upd H6 sl (.lst [.ref st0, .ref st1]) = H7 at e7 hsl ⊢
 refine ⟨(by show 0 ≤ sizeLine; decide), fun hl hhl0 => ?_⟩
 have e8 := same_upd (o := .lst []) hhl0
 have hhl : upd H7 hl (.lst []) hl = some (.lst []) := upd_same
 generalize upd H7 hl (.lst []) = H8 at e8 hhl ⊢
 have m8 := nod_cons m6 (s6.same e7) hhl0
 have s8 : SixL _ H8 := SixL.cons ((s6.same e7).same e8) hhl
 have e68 := e7.trans e8
 have e58 := e6.trans e68
 have e48 := e5.trans e58
 have e38 := e4.trans e48
 have e28 := e3.trans e38
 have e18 := e2.trans e28
 have X := sx_mk (b0 := b0) (b1 := b1) (x := x) (y := y) m8
 have frS : ∀ b o, H1 b = some o → b ∉ [hl, u1, t1, r1, u0, t0, r0, f1, p1, k1, f0, p0, k0] := fun b o h => by
   have h2 := e2 _ _ h
   have h4 := e14 _ _ h
   have h5 := e15 _ _ h
   simp only [List.mem_cons, List.not_mem_nil, or_false, not_or]
   exact ⟨some_ne ((e15.trans (e6.trans e7)) _ _ h) hhl0, some_ne h5 j6, some_ne h5 j5, some_ne h5 j4, some_ne h4 j3, some_ne h4 j2, some_ne h4 j1, some_ne h2 i6, some_ne h2 i5, some_ne h2 i4, some_ne h i3, some_ne h i2, some_ne h i1⟩
 have blS : bl ∉ [hl, u1, t1, r1, u0, t0, r0, f1, p1, k1, f0, p0, k0] := by
   have h5 := e5 _ _ hbl
   have n3 := s3.fre hbl0
   simp only [List.mem_cons, List.not_mem_nil, or_false, not_or] at n3 ⊢
   exact ⟨some_ne ((e6.trans e7) _ _ h5) hhl0, some_ne h5 j6, some_ne h5 j5, some_ne h5 j4, some_ne hbl j3, some_ne hbl j2, some_ne hbl j1, n3⟩
 have slS : sl ∉ [hl, u1, t1, r1, u0, t0, r0, f1, p1, k1, f0, p0, k0] := by
   intro m
   rcases List.mem_cons.mp m with e | m
   · exact some_ne hsl hhl0 e
   · exact s6.fre hsl0 m
 obtain ⟨S, hSS⟩ : ∃ S, S = [hl, u1, t1, r1, u0, t0, r0, f1, p1, k1, f0, p0, k0] := ⟨_, rfl⟩
 rw [← hSS] at s8 X frS blS slS
 obtain ⟨ad, had⟩ : ∃ ad : Nat → Ad, ad = (fun j => match j with | 0 => ⟨b0, k0, p0, f0, r0, t0, u0, x⟩ | _ => ⟨b1, k1, p1, f1, r1, t1, u1, y⟩) := ⟨_, rfl⟩
 obtain ⟨sst, hsst⟩ : ∃ sst : Nat → Addr, sst = (fun j => match j with | 0 => st0 | _ => st1) := ⟨_, rfl⟩
 have hbl8 : H8 bl = some (.lst [V.ref (ad 0).p, V.ref (ad 1).p]) := by
   rw [had]
   exact e48 _ _ hbl
 have hsl8 : H8 sl = some (.lst [V.ref (sst 0), V.ref (sst 1)]) := by
   rw [hsst]
   exact e8 _ _ hsl
 have hst8 : ∀ j, j < 2 → H8 (sst j) = some (.tup [.str (ad j).f, .ref (ad j).rl, .ref (ad j).tl, .ref (ad j).ul]) := fun j hj => by
   rcases twoj hj with rfl | rfl
   · rw [had, hsst]
     exact e58 _ _ os0
   · rw [had, hsst]
     exact e68 _ _ os1
 have lfj : ∀ j, j < 2 → (ad j).f.length ≤ 40 := fun j hj => by
   rcases twoj hj with rfl | rfl
   · rw [had]
     exact lx
   · rw [had]
     exact ly
 have bk0 : ∀ (q : Ad), KB C_KeptBook H8 q.p q.kl q.pl q.fl q.f → BkO C_KeptBook S x y z H8 q ⟨[], [], [], [], [], [], [], []⟩ := fun q kb => ⟨kb, (fun e he => nomatch he), (fun e he => nomatch he), (fun e he => nomatch he), rfl, (fun e he => nomatch he), (fun e he => nomatch he), PaG.nil _, PaG.nil _, PaG.nil _, PaG.nil _, (fun w h => by rcases h with h | h | h | h <;> cases h), ⟨(fun j g h => by cases h), (fun g h => nomatch h), (fun i u h => by cases h)⟩⟩
 have J0 : Jt C_KeptBook S x y z H8 H8 ad (fun _ => ⟨[], [], [], [], [], [], [], []⟩) hl [] 0 := by
   refine ⟨s8, fun j hj => ?_, fun j hj => ?_, fun j hj => ⟨Nat.le_refl _, Nat.le_refl _, Nat.le_refl _⟩, hhl, (fun w hw => nomatch hw), fun b o h _ => h⟩
   · rcases twoj hj with rfl | rfl
     · rw [had]
       exact bk0 _ (kb0.same e28)
     · rw [had]
       exact bk0 _ (kb1.same e38)
   · rcases twoj hj with rfl | rfl
     · rw [had]
       exact ⟨e28 _ _ ok0, e28 _ _ op0, e28 _ _ of0, e58 _ _ or0, e58 _ _ ot0, e58 _ _ ou0⟩
     · rw [had]
       exact ⟨e38 _ _ ok1, e38 _ _ op1, e38 _ _ of1, e68 _ _ or1, e68 _ _ ot1, e68 _ _ ou1⟩
 rw [← had] at X
 have kS : ∀ {H' : Hp}, (∀ b o, H8 b = some o → b ∉ S → H' b = some o) → Same H1 H' := fun kk b o h => kk b o (e18 _ _ h) (frS b o h)
 have tS : ∀ {b : Addr} {o : List V}, H8 b = some (.tup o) → b ∉ S := fun h => s8.tup h
 have hn8 := e18 _ _ hn
 have nnS := frS _ _ hn
 clear hSS had hsst e2 e3 e4 e5 e6 e7 e8 e14 e15 e28 e38 e48 e58 e68 s2 s3 s4 s5 s6 m2 m3 m5 m6 m8 i1 i2 i3 i4 i5 i6 j1 j2 j3 j4 j5 j6 or0 ot0 ou0 os0 or1 ot1 ou1 os1 ok0 op0 of0 ok1 op1 of1 kb0 kb1 hbl hsl hhl bk0 hhl0 hsl0 hbl0 hp0 hdx0 hp1 hdx1
 have ct : (cutV (ns.map V.int) (some 1) (some 61)).length = min 61 ns.length - min 1 ns.length := cut_nat ns 1 61
 refine ⟨_, rfl, _, rfl, _, rfl, a, _, rfl, (e1.trans (kS J0.k)).seq hS, fun c9 hc9 => ⟨c9, _, rfl, .inl (SqL.of upd_same), _, _, rfl, rfl, ⟨by decide, by decide⟩, _, rfl, by omega, by omega, ?_⟩⟩
 have f9 := same_upd (o := .lst (cutV (ns.map V.int) (some 1) (some 61))) hc9
 refine for_range (fun i σ H' => ∃ (o5 o6 o7 o8 o9 o10 o11 o12 o13 o14 : Option V) (c : Nat → Ct) (HL : List Hl), σ = [some (.ref a), some (.ref nl), some (.ref bl), some (.ref sl), some (.ref hl), o5, o6, o7, o8, o9, o10, o11, o12, o13, o14] ∧ Jt C_KeptBook S x y z H8 H' ad c hl HL i ∧ HL.length ≤ 6 * i) ⟨_, _, _, _, _, _, _, _, _, _, _, [], rfl, J0.same f9, Nat.le_refl _⟩ ?_ ?_
 · clear J0 f9 hc9
   rintro i σ HA hi ⟨o5, o6, o7, o8, o9, o10, o11, o12, o13, o14, c, HL, rfl, J, lHL⟩
   have hi20 : i < 20 := by omega
   have cn := cut_nat ns (1 + 3 * i) (4 + 3 * i)
   rw [show ((1 + 3 * i : Nat) : Int) = 1 + 3 * (0 + (i : Int)) by omega, show ((4 + 3 * i : Nat) : Int) = 4 + 3 * (0 + (i : Int)) by omega] at cn
   obtain ⟨us, hu, _, mu⟩ := cut_ints ns (some (1 + 3 * (0 + (i : Int)))) (some (4 + 3 * (0 + (i : Int))))
   rw [hu, List.length_map] at cn
   have hu3 : us.length = 3 := by omega
   obtain ⟨c0, c1, c2, rfl⟩ : ∃ c0 c1 c2, us = [c0, c1, c2] := by
     rcases us with _ | ⟨c0, _ | ⟨c1, _ | ⟨c2, _ | ⟨c3, r⟩⟩⟩⟩ <;> simp at hu3
     exact ⟨c0, c1, c2, rfl⟩
   refine ⟨_, rfl, _, rfl, _, _, rfl, rfl, mul_of (by omega) (by omega) (by omega) (by omega), _, _, rfl, rfl, _, rfl, _, rfl, _, _, rfl, rfl, mul_of (by omega) (by omega) (by omega) (by omega), _, _, rfl, rfl, _, rfl, a, _, rfl, (e1.trans (kS J.k)).seq hS, fun cu hcu => ?_⟩
   rw [hu]
   have cuS := J.s.fre hcu
   have fB := same_upd (o := .lst ([c0, c1, c2].map V.int)) hcu
   have hcuB : upd HA cu (.lst ([c0, c1, c2].map V.int)) cu = some (.lst ([c0, c1, c2].map V.int)) := upd_same
   generalize upd HA cu (.lst ([c0, c1, c2].map V.int)) = HB at fB hcuB ⊢
   have JB := J.same fB
   refine ⟨_, rfl, .inl ⟨cu, _, 0, _, rfl, rfl, SqL.of hcuB, rfl, _, _, rfl, rfl, (by show (0 : Int) < 2; decide), ?_⟩⟩
   obtain ⟨j, hjE⟩ : ∃ j : Nat, c0 % 2 = (j : Int) := Int.eq_ofNat_of_zero_le (Int.emod_nonneg _ (by decide))
   have hj : j < 2 := by
     have := Int.emod_lt_of_pos c0 (show (0 : Int) < 2 by decide)
     omega
   dsimp only
   rw [hjE]
   have kn := JB.n j hj
   refine ⟨_, rfl, _, rfl, .inl ⟨bl, _, _, _, rfl, rfl, SqL.of (JB.k _ _ hbl8 blS), at2j (fun i => V.ref (ad i).p) hj, _, rfl, _, rfl, _, rfl, .inl ⟨sl, _, _, _, rfl, rfl, SqL.of (JB.k _ _ hsl8 slS), at2j (fun i => V.ref (sst i)) hj, _, rfl, ad j, c j, S, nl, sst j, cu, x, y, z, c0, c1, c2, rfl, JB.s, X.sub j hj, X.nod j hj, JB.b j hj, JB.l j hj, (by omega), (by omega), (by omega), JB.k _ _ hn8 nnS, nnS, lx, ly, lz, lfj j hj, JB.k _ _ (hst8 j hj) (tS (hst8 j hj)), hcuB, cuS, fun c' HC kC BC lC l1 l2 l3 => ⟨true, rfl, iteF ?_⟩⟩⟩⟩
   have JC := JB.step X hj kC BC lC l1 l2 l3
   have cuC := kC _ _ hcuB (fun m => cuS (X.sub j hj _ m))
   generalize put c j c' = cc at JC ⊢
   clear JB J kC BC lC l1 l2 l3 kn fB hcuB hcu
   refine ⟨_, rfl, _, rfl, _, _, rfl, rfl, (by show 2 ≤ sizeLine; decide), fun wl hwl => ⟨wl, rfl, ⟨_, SqL.of upd_same⟩, ?_⟩⟩
   have wlS := JC.s.fre hwl
   have fD := same_upd (o := .lst [.int (j : Int), .int (1 - (j : Int))]) hwl
   have hwlD : upd HC wl (.lst [.int (j : Int), .int (1 - (j : Int))]) wl = some (.lst [.int (j : Int), .int (1 - (j : Int))]) := upd_same
   generalize upd HC wl (.lst [.int (j : Int), .int (1 - (j : Int))]) = HD at fD hwlD ⊢
   refine for_list (xs := [.int (j : Int), .int (1 - (j : Int))]) (fun m σ H' => ∃ (o5 o8 o9 o10 o11 o12 o13 o14 : Option V) (HL : List Hl), σ = [some (.ref a), some (.ref nl), some (.ref bl), some (.ref sl), some (.ref hl), o5, some (.ref cu), some (.int (j : Int)), o8, o9, o10, o11, o12, o13, o14] ∧ Jt C_KeptBook S x y z H8 H' ad cc hl HL (i + 1) ∧ HL.length ≤ 6 * i + 3 * m ∧ H' wl = some (.lst [.int (j : Int), .int (1 - (j : Int))]) ∧ H' cu = some (.lst [.int c0, .int c1, .int c2]) ∧ wl ∉ S ∧ cu ∉ S) ⟨_, _, _, _, _, _, _, _, HL, rfl, JC.same fD, by omega, hwlD, fD _ _ cuC, wlS, cuS⟩ ?_ ?_ ?_
   · rintro m σ HE hm ⟨o5, o8, o9, o10, o11, o12, o13, o14, HL2, rfl, _, _, hw, _⟩
     exact SqL.of hw
   · rintro m v σ HE hv ⟨o5, o8, o9, o10, o11, o12, o13, o14, HL2, rfl, JE, lL, hwE, hcE, _, _⟩
     obtain ⟨q, hq, rfl⟩ : ∃ q : Nat, q < 2 ∧ v = .int (q : Int) := by
       rcases m with _ | _ | m
       · cases hv
         exact ⟨j, hj, rfl⟩
       · cases hv
         exact ⟨1 - j, by omega, by rw [show ((1 - j : Nat) : Int) = 1 - (j : Int) by omega]⟩
       · cases hv
     have hm2 : m < 2 := (List.getElem?_eq_some_iff.mp hv).1
     have kn := JE.n q hq
     have BE := JE.b q hq
     have lE := JE.l q hq
     have hstE := JE.k _ _ (hst8 q hq) (tS (hst8 q hq))
     refine ⟨_, rfl, _, rfl, .inl ⟨sl, _, _, _, rfl, rfl, SqL.of (JE.k _ _ hsl8 slS), at2j (fun i => V.ref (sst i)) hq, sst q, _, rfl, SqT.of hstE, rfl, _, _, rfl, _, _, rfl, _, _, rfl, _, _, rfl, rfl, ?_⟩⟩
     have dq : ∀ b ∈ six (ad q), hl ≠ b := fun b hb e => X.hnt q hq (by rw [e]; exact hb)
     refine ⟨_, rfl, _, rfl, .inl ⟨bl, _, _, _, rfl, rfl, SqL.of (JE.k _ _ hbl8 blS), at2j (fun i => V.ref (ad i).p) hq, _, rfl, _, rfl, _, rfl, .inl ⟨cu, _, 0, _, rfl, rfl, SqL.of hcE, rfl, _, _, rfl, rfl, ⟨by decide, by decide⟩, _, _, rfl, rfl, (by show (0 : Int) < 3; decide), _, rfl, (ad q).p, (ad q).kl, (ad q).pl, (ad q).fl, (ad q).tl, (ad q).ul, hl, (ad q).f, _, (cc q).ZP, (cc q).ZF, (cc q).YT, (cc q).YU, (cc q).G, (cc q).U, rfH HL2, rfl, BE.kb, lE.p, BE.zp, lE.f, BE.zf, lE.t, BE.yt, lE.u, BE.yu, (by omega), (by omega), JE.h, (by rw [rfH_len]; omega), (by simp only [List.mem_cons, List.not_mem_nil, or_false, not_or]; exact ⟨dq _ (by simp [six]), dq _ (by simp [six]), dq _ (by simp [six]), dq _ (by simp [six])⟩), (fun w hw e => BE.ns w hw (by rw [e]; exact X.hin)), fun N HF kF hF hN lN => ⟨true, rfl, iteF ?_⟩⟩⟩⟩
     exact ⟨_, _, _, _, _, _, _, _, HL2 ++ N, rfl, JE.look X kF hF hN, (by rw [List.length_append]; omega), kF _ _ hwE (fun e => wlS (by rw [e]; exact X.hin)), kF _ _ hcE (fun e => cuS (by rw [e]; exact X.hin)), wlS, cuS⟩
   rintro σ HE ⟨o5, o8, o9, o10, o11, o12, o13, o14, HL2, rfl, JE, lL, _, _, _, _⟩
   exact ⟨_, _, _, _, _, _, _, _, _, _, cc, HL2, rfl, JE, by have : HL2.length ≤ 6 * i + 3 * 2 := lL; omega⟩
 rintro σ H9 ⟨o5, o6, o7, o8, o9, o10, o11, o12, o13, o14, c, HL, rfl, J, lHL⟩
 refine ⟨_, rfl, hl, rfl, ⟨_, SqL.of J.h⟩, ?_⟩
 refine for_list (xs := rfH HL) (fun i σ H' => ∃ (o5 o6 o7 o8 o9 o10 o11 o12 o13 o14 : Option V), σ = [some (.ref a), some (.ref nl), some (.ref bl), some (.ref sl), some (.ref hl), o5, o6, o7, o8, o9, o10, o11, o12, o13, o14] ∧ H' = H9) ⟨_, _, _, _, _, _, _, _, _, _, rfl, rfl⟩ ?_ ?_ ?_
 · rintro i σ HA hi ⟨o5, o6, o7, o8, o9, o10, o11, o12, o13, o14, rfl, rfl⟩
   exact SqL.of J.h
 · rintro i v σ HA hv ⟨o5, o6, o7, o8, o9, o10, o11, o12, o13, o14, rfl, rfl⟩
   obtain ⟨w, hw, rfl⟩ := rfH_at hv
   have o := (J.o w (List.mem_of_getElem? hw)).1
   refine ⟨w.1, _, rfl, SqT.of o.1, rfl, _, _, rfl, _, _, rfl, rfl, ?_⟩
   exact ⟨_, rfl, _, rfl, w.2.1, w.2.2.1, w.2.2.2.1, w.2.2.2.2.1, w.2.2.2.2.2, rfl, o.2.1, o.2.2.2.1, o.2.2.1, o.2.2.2.2.1, o.2.2.2.2.2, true, rfl, iteF ⟨_, _, _, _, _, _, _, _, _, _, rfl, rfl⟩⟩
 rintro σ HA ⟨o5, o6, o7, o8, o9, o10, o11, o12, o13, o14, rfl, rfl⟩
 have k0 := J.n 0 (by decide)
 have k1 := J.n 1 (by decide)
 refine ⟨_, rfl, .inl ⟨bl, _, 0, _, rfl, rfl, SqL.of (J.k _ _ hbl8 blS), rfl, _, rfl, .inl ⟨sl, _, 0, _, rfl, rfl, SqL.of (J.k _ _ hsl8 slS), rfl, ad 0, c 0, S, sst 0, x, y, z, rfl, J.s, J.b 0 (by decide), J.l 0 (by decide), (by omega), (by omega), J.k _ _ (hst8 0 (by decide)) (tS (hst8 0 (by decide))), fun HB eB => ⟨true, rfl, iteT ?_⟩⟩⟩⟩
 have JB := J.same eB
 exact ⟨_, rfl, .inl ⟨bl, _, 1, _, rfl, rfl, SqL.of (JB.k _ _ hbl8 blS), rfl, _, rfl, .inl ⟨sl, _, 1, _, rfl, rfl, SqL.of (JB.k _ _ hsl8 slS), rfl, ad 1, c 1, S, sst 1, x, y, z, rfl, JB.s, JB.b 1 (by decide), JB.l 1 (by decide), (by omega), (by omega), JB.k _ _ (hst8 1 (by decide)) (tS (hst8 1 (by decide))), fun HC eC => q _⟩⟩⟩
end
theorem all_mk {l : PySem.W.OpenLaw} {w : World} {K : PySem.W.Frag} {h : Heap} {mg : Str → Option Value} {fa : Addr} {C_BadPaper C_Book C_Closed C_KeptBook : Addr} {f_rests_of : Addr} {oc_rests_of kV_rests_of dc_rests_of pm_rests_of cd_rests_of ct_rests_of : Value} {od_rests_of an_rests_of : Option Addr} {sl_rests_of : Array (Option Value)} {f_month_of : Addr} {oc_month_of kV_month_of dc_month_of pm_month_of cd_month_of ct_month_of : Value} {od_month_of an_month_of : Option Addr} {sl_month_of : Array (Option Value)} {f_put_together : Addr} {oc_put_together kV_put_together dc_put_together pm_put_together cd_put_together ct_put_together : Value} {od_put_together an_put_together : Option Addr} {sl_put_together : Array (Option Value)} {f_figures_of : Addr} {oc_figures_of kV_figures_of dc_figures_of pm_figures_of cd_figures_of ct_figures_of : Value} {od_figures_of an_figures_of : Option Addr} {sl_figures_of : Array (Option Value)} {f_check_entry : Addr} {oc_check_entry kV_check_entry dc_check_entry pm_check_entry cd_check_entry ct_check_entry : Value} {od_check_entry an_check_entry : Option Addr} {sl_check_entry : Array (Option Value)} {f__law_cell : Addr} {oc__law_cell kV__law_cell dc__law_cell pm__law_cell cd__law_cell ct__law_cell : Value} {od__law_cell an__law_cell : Option Addr} {sl__law_cell : Array (Option Value)} {f__law_whole : Addr} {oc__law_whole kV__law_whole dc__law_whole pm__law_whole cd__law_whole ct__law_whole : Value} {od__law_whole an__law_whole : Option Addr} {sl__law_whole : Array (Option Value)} {f__law_names : Addr} {oc__law_names kV__law_names dc__law_names pm__law_names cd__law_names ct__law_names : Value} {od__law_names an__law_names : Option Addr} {sl__law_names : Array (Option Value)} {f__law_amount : Addr} {oc__law_amount kV__law_amount dc__law_amount pm__law_amount cd__law_amount ct__law_amount : Value} {od__law_amount an__law_amount : Option Addr} {sl__law_amount : Array (Option Value)} {f_Closed__init__ : Addr} {oc_Closed__init__ kV_Closed__init__ dc_Closed__init__ pm_Closed__init__ cd_Closed__init__ ct_Closed__init__ : Value} {od_Closed__init__ an_Closed__init__ : Option Addr} {sl_Closed__init__ : Array (Option Value)} {f_BadPaper__init__ : Addr} {oc_BadPaper__init__ kV_BadPaper__init__ dc_BadPaper__init__ pm_BadPaper__init__ cd_BadPaper__init__ ct_BadPaper__init__ : Value} {od_BadPaper__init__ an_BadPaper__init__ : Option Addr} {sl_BadPaper__init__ : Array (Option Value)} {f_KeptBook_closed : Addr} {oc_KeptBook_closed kV_KeptBook_closed dc_KeptBook_closed pm_KeptBook_closed cd_KeptBook_closed ct_KeptBook_closed : Value} {od_KeptBook_closed an_KeptBook_closed : Option Addr} {sl_KeptBook_closed : Array (Option Value)} {f_KeptBook_may_enter : Addr} {oc_KeptBook_may_enter kV_KeptBook_may_enter dc_KeptBook_may_enter pm_KeptBook_may_enter cd_KeptBook_may_enter ct_KeptBook_may_enter : Value} {od_KeptBook_may_enter an_KeptBook_may_enter : Option Addr} {sl_KeptBook_may_enter : Array (Option Value)} {f_KeptBook_post : Addr} {oc_KeptBook_post kV_KeptBook_post dc_KeptBook_post pm_KeptBook_post cd_KeptBook_post ct_KeptBook_post : Value} {od_KeptBook_post an_KeptBook_post : Option Addr} {sl_KeptBook_post : Array (Option Value)} {f_KeptBook_spots : Addr} {oc_KeptBook_spots kV_KeptBook_spots dc_KeptBook_spots pm_KeptBook_spots cd_KeptBook_spots ct_KeptBook_spots : Value} {od_KeptBook_spots an_KeptBook_spots : Option Addr} {sl_KeptBook_spots : Array (Option Value)} {T_KeptBook_spots : Addr} {odT_KeptBook_spots : Option Addr} {nT_KeptBook_spots : Nat} {slT_KeptBook_spots : Array (Option Value)} {f_KeptBook_lines_upto : Addr} {oc_KeptBook_lines_upto kV_KeptBook_lines_upto dc_KeptBook_lines_upto pm_KeptBook_lines_upto cd_KeptBook_lines_upto ct_KeptBook_lines_upto : Value} {od_KeptBook_lines_upto an_KeptBook_lines_upto : Option Addr} {sl_KeptBook_lines_upto : Array (Option Value)} {T_KeptBook_lines_upto : Addr} {odT_KeptBook_lines_upto : Option Addr} {nT_KeptBook_lines_upto : Nat} {slT_KeptBook_lines_upto : Array (Option Value)} {f_KeptBook_figures : Addr} {oc_KeptBook_figures kV_KeptBook_figures dc_KeptBook_figures pm_KeptBook_figures cd_KeptBook_figures ct_KeptBook_figures : Value} {od_KeptBook_figures an_KeptBook_figures : Option Addr} {sl_KeptBook_figures : Array (Option Value)} {T_KeptBook_figures : Addr} {odT_KeptBook_figures : Option Addr} {nT_KeptBook_figures : Nat} {slT_KeptBook_figures : Array (Option Value)} {f_paper_copy : Addr} {oc_paper_copy kV_paper_copy dc_paper_copy pm_paper_copy cd_paper_copy ct_paper_copy : Value} {od_paper_copy an_paper_copy : Option Addr} {sl_paper_copy : Array (Option Value)} {f_KeptBook_close : Addr} {oc_KeptBook_close kV_KeptBook_close dc_KeptBook_close pm_KeptBook_close cd_KeptBook_close ct_KeptBook_close : Value} {od_KeptBook_close an_KeptBook_close : Option Addr} {sl_KeptBook_close : Array (Option Value)} {f_KeptBook_reopen : Addr} {oc_KeptBook_reopen kV_KeptBook_reopen dc_KeptBook_reopen pm_KeptBook_reopen cd_KeptBook_reopen ct_KeptBook_reopen : Value} {od_KeptBook_reopen an_KeptBook_reopen : Option Addr} {sl_KeptBook_reopen : Array (Option Value)} {f_KeptBook_told_papers : Addr} {oc_KeptBook_told_papers kV_KeptBook_told_papers dc_KeptBook_told_papers pm_KeptBook_told_papers cd_KeptBook_told_papers ct_KeptBook_told_papers : Value} {od_KeptBook_told_papers an_KeptBook_told_papers : Option Addr} {sl_KeptBook_told_papers : Array (Option Value)} {f_KeptBook_standing : Addr} {oc_KeptBook_standing kV_KeptBook_standing dc_KeptBook_standing pm_KeptBook_standing cd_KeptBook_standing ct_KeptBook_standing : Value} {od_KeptBook_standing an_KeptBook_standing : Option Addr} {sl_KeptBook_standing : Array (Option Value)} {f__law_lines : Addr} {oc__law_lines kV__law_lines dc__law_lines pm__law_lines cd__law_lines ct__law_lines : Value} {od__law_lines an__law_lines : Option Addr} {sl__law_lines : Array (Option Value)} {f__law_figures : Addr} {oc__law_figures kV__law_figures dc__law_figures pm__law_figures cd__law_figures ct__law_figures : Value} {od__law_figures an__law_figures : Option Addr} {sl__law_figures : Array (Option Value)} {f__law_upto : Addr} {oc__law_upto kV__law_upto dc__law_upto pm__law_upto cd__law_upto ct__law_upto : Value} {od__law_upto an__law_upto : Option Addr} {sl__law_upto : Array (Option Value)} {f_KeptBook_entries : Addr} {oc_KeptBook_entries kV_KeptBook_entries dc_KeptBook_entries pm_KeptBook_entries cd_KeptBook_entries ct_KeptBook_entries : Value} {od_KeptBook_entries an_KeptBook_entries : Option Addr} {sl_KeptBook_entries : Array (Option Value)} {f_movement_of : Addr} {oc_movement_of kV_movement_of dc_movement_of pm_movement_of cd_movement_of ct_movement_of : Value} {od_movement_of an_movement_of : Option Addr} {sl_movement_of : Array (Option Value)} {f_carried : Addr} {oc_carried kV_carried dc_carried pm_carried cd_carried ct_carried : Value} {od_carried an_carried : Option Addr} {sl_carried : Array (Option Value)} {f_paper_holds : Addr} {oc_paper_holds kV_paper_holds dc_paper_holds pm_paper_holds cd_paper_holds ct_paper_holds : Value} {od_paper_holds an_paper_holds : Option Addr} {sl_paper_holds : Array (Option Value)} {f__law_paper : Addr} {oc__law_paper kV__law_paper dc__law_paper pm__law_paper cd__law_paper ct__law_paper : Value} {od__law_paper an__law_paper : Option Addr} {sl__law_paper : Array (Option Value)} {f__law_papers : Addr} {oc__law_papers kV__law_papers dc__law_papers pm__law_papers cd__law_papers ct__law_papers : Value} {od__law_papers an__law_papers : Option Addr} {sl__law_papers : Array (Option Value)} {f__law_copies : Addr} {oc__law_copies kV__law_copies dc__law_copies pm__law_copies cd__law_copies ct__law_copies : Value} {od__law_copies an__law_copies : Option Addr} {sl__law_copies : Array (Option Value)} {f__law_posted : Addr} {oc__law_posted kV__law_posted dc__law_posted pm__law_posted cd__law_posted ct__law_posted : Value} {od__law_posted an__law_posted : Option Addr} {sl__law_posted : Array (Option Value)} {f__law_opened : Addr} {oc__law_opened kV__law_opened dc__law_opened pm__law_opened cd__law_opened ct__law_opened : Value} {od__law_opened an__law_opened : Option Addr} {sl__law_opened : Array (Option Value)} {f__law_other : Addr} {oc__law_other kV__law_other dc__law_other pm__law_other cd__law_other ct__law_other : Value} {od__law_other an__law_other : Option Addr} {sl__law_other : Array (Option Value)} {f__law_look : Addr} {oc__law_look kV__law_look dc__law_look pm__law_look cd__law_look ct__law_look : Value} {od__law_look an__law_look : Option Addr} {sl__law_look : Array (Option Value)} {f__law_step : Addr} {oc__law_step kV__law_step dc__law_step pm__law_step cd__law_step ct__law_step : Value} {od__law_step an__law_step : Option Addr} {sl__law_step : Array (Option Value)} {f__law_end : Addr} {oc__law_end kV__law_end dc__law_end pm__law_end cd__law_end ct__law_end : Value} {od__law_end an__law_end : Option Addr} {sl__law_end : Array (Option Value)} {f_Book___init__B : Addr} {oc_Book___init__B kV_Book___init__B dc_Book___init__B pm_Book___init__B cd_Book___init__B ct_Book___init__B : Value} {od_Book___init__B an_Book___init__B : Option Addr} {sl_Book___init__B : Array (Option Value)} {f_KeptBook___init__ : Addr} {oc_KeptBook___init__ kV_KeptBook___init__ dc_KeptBook___init__ pm_KeptBook___init__ cd_KeptBook___init__ ct_KeptBook___init__ : Value} {od_KeptBook___init__ an_KeptBook___init__ : Option Addr} {sl_KeptBook___init__ : Array (Option Value)} {f_law : Addr} {oc_law kV_law dc_law pm_law cd_law ct_law : Value} {od_law an_law : Option Addr} {sl_law : Array (Option Value)} (X : K.In h) (G : h.Ns mainGlobals mg) (hfa : mg "law" = some (.ref fa))
   (a_BadPaper : PySem.W.nsIn K mainGlobals "BadPaper" = some (some (.ref C_BadPaper))) (a_Book : PySem.W.nsIn K mainGlobals "Book" = some (some (.ref C_Book))) (a_Closed : PySem.W.nsIn K mainGlobals "Closed" = some (some (.ref C_Closed))) (a_KeptBook : PySem.W.nsIn K mainGlobals "KeptBook" = some (some (.ref C_KeptBook))) (xs_Closed : xclsIn K C_Closed = true) (xga_Closed : PySem.W.findIn K (.ref C_Closed) "__getattribute__" = some (some (.builtin "BaseException.__getattribute__"))) (xgh_Closed : PySem.W.findIn K (.ref C_Closed) "__getattr__" = some (none)) (xsa_Closed : PySem.W.findIn K (.ref C_Closed) "__setattr__" = some (some (.builtin "object.__setattr__"))) (xcl_Closed : PySem.W.findIn K (.ref C_Closed) "__class__" = some (some (.builtin "object.__class__"))) (xs_BadPaper : xclsIn K C_BadPaper = true) (xga_BadPaper : PySem.W.findIn K (.ref C_BadPaper) "__getattribute__" = some (some (.builtin "BaseException.__getattribute__"))) (xgh_BadPaper : PySem.W.findIn K (.ref C_BadPaper) "__getattr__" = some (none)) (xsa_BadPaper : PySem.W.findIn K (.ref C_BadPaper) "__setattr__" = some (some (.builtin "object.__setattr__"))) (xcl_BadPaper : PySem.W.findIn K (.ref C_BadPaper) "__class__" = some (some (.builtin "object.__class__"))) (nz_list : PySem.W.nsIn K mainGlobals "list" = some none) (nz_sorted : PySem.W.nsIn K mainGlobals "sorted" = some none) (nz_sum : PySem.W.nsIn K mainGlobals "sum" = some none) (nz_len : PySem.W.nsIn K mainGlobals "len" = some none) (nz_isinstance : PySem.W.nsIn K mainGlobals "isinstance" = some none) (nz_int : PySem.W.nsIn K mainGlobals "int" = some none) (nz_bool : PySem.W.nsIn K mainGlobals "bool" = some none) (nz_range : PySem.W.nsIn K mainGlobals "range" = some none) (nz_tuple : PySem.W.nsIn K mainGlobals "tuple" = some none) (nz_enumerate : PySem.W.nsIn K mainGlobals "enumerate" = some none) (nz_str : PySem.W.nsIn K mainGlobals "str" = some none) (nz_max : PySem.W.nsIn K mainGlobals "max" = some none) (q_ib : PySem.W.kitOne K (.type "int") (.type "bool") = some false) (q_mC : PySem.W.exmOne K (.ref C_Closed) (.ref C_Closed) = some true) (q_mB : PySem.W.exmOne K (.ref C_BadPaper) (.ref C_BadPaper) = some true) (q_bga : PySem.W.specialIn K (.ref C_Book) "__getattribute__" = some (some (.builtin "type.__getattribute__"))) (q_brd : PySem.W.readsIn K C_Book (.type "type") = true) (pg_KeptBook : PySem.W.plainGet K C_KeptBook Str.empty = true) (hd_KeptBook : PySem.W.hasDictIn K C_KeptBook = true) (po_KeptBook : PySem.W.plainOver K C_KeptBook = true) (sa_KeptBook : PySem.W.findIn K (.ref C_KeptBook) "__setattr__" = some (some (.builtin "object.__setattr__"))) (mk_KeptBook : PySem.W.makesIn K C_KeptBook = true) (kc_KeptBook : PySem.W.keepIn K (.ref C_KeptBook) = true) (n_Closedbook : PySem.W.findIn K (.ref C_Closed) "book" = some none) (n_Closedmonth : PySem.W.findIn K (.ref C_Closed) "month" = some none) (n_BadPaperbook : PySem.W.findIn K (.ref C_BadPaper) "book" = some none) (n_BadPapermonth : PySem.W.findIn K (.ref C_BadPaper) "month" = some none) (n_book : PySem.W.findIn K (.ref C_KeptBook) "book" = some none) (n_kept : PySem.W.findIn K (.ref C_KeptBook) "kept" = some none) (n_papers : PySem.W.findIn K (.ref C_KeptBook) "papers" = some none) (n_in_force : PySem.W.findIn K (.ref C_KeptBook) "in_force" = some none) (a_rests_of : PySem.W.nsIn K mainGlobals "rests_of" = some (some (.ref f_rests_of))) (l_rests_of : K.lookup f_rests_of = some ⟨oc_rests_of, od_rests_of, .func (PySem.W.fnOf "rests_of" "rests_of" (defArgs s_rests_of) (defBody s_rests_of) (defScope s_rests_of) .none kV_rests_of dc_rests_of pm_rests_of an_rests_of cd_rests_of ct_rests_of), sl_rests_of⟩) (c_rests_of : PySem.W.codeIn K cd_rests_of "rests_of" = true) (k_rests_of : PySem.W.keepIn K (.ref f_rests_of) = true) (a_month_of : PySem.W.nsIn K mainGlobals "month_of" = some (some (.ref f_month_of))) (l_month_of : K.lookup f_month_of = some ⟨oc_month_of, od_month_of, .func (PySem.W.fnOf "month_of" "month_of" (defArgs s_month_of) (defBody s_month_of) (defScope s_month_of) .none kV_month_of dc_month_of pm_month_of an_month_of cd_month_of ct_month_of), sl_month_of⟩) (c_month_of : PySem.W.codeIn K cd_month_of "month_of" = true) (k_month_of : PySem.W.keepIn K (.ref f_month_of) = true) (a_put_together : PySem.W.nsIn K mainGlobals "put_together" = some (some (.ref f_put_together))) (l_put_together : K.lookup f_put_together = some ⟨oc_put_together, od_put_together, .func (PySem.W.fnOf "put_together" "put_together" (defArgs s_put_together) (defBody s_put_together) (defScope s_put_together) .none kV_put_together dc_put_together pm_put_together an_put_together cd_put_together ct_put_together), sl_put_together⟩) (c_put_together : PySem.W.codeIn K cd_put_together "put_together" = true) (k_put_together : PySem.W.keepIn K (.ref f_put_together) = true) (a_figures_of : PySem.W.nsIn K mainGlobals "figures_of" = some (some (.ref f_figures_of))) (l_figures_of : K.lookup f_figures_of = some ⟨oc_figures_of, od_figures_of, .func (PySem.W.fnOf "figures_of" "figures_of" (defArgs s_figures_of) (defBody s_figures_of) (defScope s_figures_of) .none kV_figures_of dc_figures_of pm_figures_of an_figures_of cd_figures_of ct_figures_of), sl_figures_of⟩) (c_figures_of : PySem.W.codeIn K cd_figures_of "figures_of" = true) (k_figures_of : PySem.W.keepIn K (.ref f_figures_of) = true) (a_check_entry : PySem.W.nsIn K mainGlobals "check_entry" = some (some (.ref f_check_entry))) (l_check_entry : K.lookup f_check_entry = some ⟨oc_check_entry, od_check_entry, .func (PySem.W.fnOf "check_entry" "check_entry" (defArgs s_check_entry) (defBody s_check_entry) (defScope s_check_entry) .none kV_check_entry dc_check_entry pm_check_entry an_check_entry cd_check_entry ct_check_entry), sl_check_entry⟩) (c_check_entry : PySem.W.codeIn K cd_check_entry "check_entry" = true) (k_check_entry : PySem.W.keepIn K (.ref f_check_entry) = true) (a__law_cell : PySem.W.nsIn K mainGlobals "_law_cell" = some (some (.ref f__law_cell))) (l__law_cell : K.lookup f__law_cell = some ⟨oc__law_cell, od__law_cell, .func (PySem.W.fnOf "_law_cell" "_law_cell" (defArgs s__law_cell) (defBody s__law_cell) (defScope s__law_cell) .none kV__law_cell dc__law_cell pm__law_cell an__law_cell cd__law_cell ct__law_cell), sl__law_cell⟩) (c__law_cell : PySem.W.codeIn K cd__law_cell "_law_cell" = true) (k__law_cell : PySem.W.keepIn K (.ref f__law_cell) = true) (a__law_whole : PySem.W.nsIn K mainGlobals "_law_whole" = some (some (.ref f__law_whole))) (l__law_whole : K.lookup f__law_whole = some ⟨oc__law_whole, od__law_whole, .func (PySem.W.fnOf "_law_whole" "_law_whole" (defArgs s__law_whole) (defBody s__law_whole) (defScope s__law_whole) .none kV__law_whole dc__law_whole pm__law_whole an__law_whole cd__law_whole ct__law_whole), sl__law_whole⟩) (c__law_whole : PySem.W.codeIn K cd__law_whole "_law_whole" = true) (k__law_whole : PySem.W.keepIn K (.ref f__law_whole) = true) (a__law_names : PySem.W.nsIn K mainGlobals "_law_names" = some (some (.ref f__law_names))) (l__law_names : K.lookup f__law_names = some ⟨oc__law_names, od__law_names, .func (PySem.W.fnOf "_law_names" "_law_names" (defArgs s__law_names) (defBody s__law_names) (defScope s__law_names) .none kV__law_names dc__law_names pm__law_names an__law_names cd__law_names ct__law_names), sl__law_names⟩) (c__law_names : PySem.W.codeIn K cd__law_names "_law_names" = true) (k__law_names : PySem.W.keepIn K (.ref f__law_names) = true) (a__law_amount : PySem.W.nsIn K mainGlobals "_law_amount" = some (some (.ref f__law_amount))) (l__law_amount : K.lookup f__law_amount = some ⟨oc__law_amount, od__law_amount, .func (PySem.W.fnOf "_law_amount" "_law_amount" (defArgs s__law_amount) (defBody s__law_amount) (defScope s__law_amount) .none kV__law_amount dc__law_amount pm__law_amount an__law_amount cd__law_amount ct__law_amount), sl__law_amount⟩) (c__law_amount : PySem.W.codeIn K cd__law_amount "_law_amount" = true) (k__law_amount : PySem.W.keepIn K (.ref f__law_amount) = true) (at_Closed__init__ : PySem.W.findIn K (.ref C_Closed) "__init__" = some (some (.ref f_Closed__init__))) (fn_Closed__init__ : PySem.W.isFn K (.ref f_Closed__init__) = true) (l_Closed__init__ : K.lookup f_Closed__init__ = some ⟨oc_Closed__init__, od_Closed__init__, .func (PySem.W.fnOf "__init__" "Closed.__init__" (defArgs s_Closed__init__) (defBody s_Closed__init__) (defScope s_Closed__init__) .none kV_Closed__init__ dc_Closed__init__ pm_Closed__init__ an_Closed__init__ cd_Closed__init__ ct_Closed__init__), sl_Closed__init__⟩) (c_Closed__init__ : PySem.W.codeIn K cd_Closed__init__ "Closed.__init__" = true) (k_Closed__init__ : PySem.W.keepIn K (.ref f_Closed__init__) = true) (at_BadPaper__init__ : PySem.W.findIn K (.ref C_BadPaper) "__init__" = some (some (.ref f_BadPaper__init__))) (fn_BadPaper__init__ : PySem.W.isFn K (.ref f_BadPaper__init__) = true) (l_BadPaper__init__ : K.lookup f_BadPaper__init__ = some ⟨oc_BadPaper__init__, od_BadPaper__init__, .func (PySem.W.fnOf "__init__" "BadPaper.__init__" (defArgs s_BadPaper__init__) (defBody s_BadPaper__init__) (defScope s_BadPaper__init__) .none kV_BadPaper__init__ dc_BadPaper__init__ pm_BadPaper__init__ an_BadPaper__init__ cd_BadPaper__init__ ct_BadPaper__init__), sl_BadPaper__init__⟩) (c_BadPaper__init__ : PySem.W.codeIn K cd_BadPaper__init__ "BadPaper.__init__" = true) (k_BadPaper__init__ : PySem.W.keepIn K (.ref f_BadPaper__init__) = true) (at_KeptBook_closed : PySem.W.findIn K (.ref C_KeptBook) "closed" = some (some (.ref f_KeptBook_closed))) (fn_KeptBook_closed : PySem.W.isFn K (.ref f_KeptBook_closed) = true) (l_KeptBook_closed : K.lookup f_KeptBook_closed = some ⟨oc_KeptBook_closed, od_KeptBook_closed, .func (PySem.W.fnOf "closed" "KeptBook.closed" (defArgs s_KeptBook_closed) (defBody s_KeptBook_closed) (defScope s_KeptBook_closed) .none kV_KeptBook_closed dc_KeptBook_closed pm_KeptBook_closed an_KeptBook_closed cd_KeptBook_closed ct_KeptBook_closed), sl_KeptBook_closed⟩) (c_KeptBook_closed : PySem.W.codeIn K cd_KeptBook_closed "KeptBook.closed" = true) (k_KeptBook_closed : PySem.W.keepIn K (.ref f_KeptBook_closed) = true) (at_KeptBook_may_enter : PySem.W.findIn K (.ref C_KeptBook) "may_enter" = some (some (.ref f_KeptBook_may_enter))) (fn_KeptBook_may_enter : PySem.W.isFn K (.ref f_KeptBook_may_enter) = true) (l_KeptBook_may_enter : K.lookup f_KeptBook_may_enter = some ⟨oc_KeptBook_may_enter, od_KeptBook_may_enter, .func (PySem.W.fnOf "may_enter" "KeptBook.may_enter" (defArgs s_KeptBook_may_enter) (defBody s_KeptBook_may_enter) (defScope s_KeptBook_may_enter) .none kV_KeptBook_may_enter dc_KeptBook_may_enter pm_KeptBook_may_enter an_KeptBook_may_enter cd_KeptBook_may_enter ct_KeptBook_may_enter), sl_KeptBook_may_enter⟩) (c_KeptBook_may_enter : PySem.W.codeIn K cd_KeptBook_may_enter "KeptBook.may_enter" = true) (k_KeptBook_may_enter : PySem.W.keepIn K (.ref f_KeptBook_may_enter) = true) (at_KeptBook_post : PySem.W.findIn K (.ref C_KeptBook) "post" = some (some (.ref f_KeptBook_post))) (fn_KeptBook_post : PySem.W.isFn K (.ref f_KeptBook_post) = true) (l_KeptBook_post : K.lookup f_KeptBook_post = some ⟨oc_KeptBook_post, od_KeptBook_post, .func (PySem.W.fnOf "post" "Book.post" (defArgs s_KeptBook_post) (defBody s_KeptBook_post) (defScope s_KeptBook_post) .none kV_KeptBook_post dc_KeptBook_post pm_KeptBook_post an_KeptBook_post cd_KeptBook_post ct_KeptBook_post), sl_KeptBook_post⟩) (c_KeptBook_post : PySem.W.codeIn K cd_KeptBook_post "Book.post" = true) (k_KeptBook_post : PySem.W.keepIn K (.ref f_KeptBook_post) = true) (at_KeptBook_spots : PySem.W.findIn K (.ref C_KeptBook) "spots" = some (some (.ref f_KeptBook_spots))) (fn_KeptBook_spots : PySem.W.isFn K (.ref f_KeptBook_spots) = true) (l_KeptBook_spots : K.lookup f_KeptBook_spots = some ⟨oc_KeptBook_spots, od_KeptBook_spots, .func (PySem.W.fnOf "spots" "Book.spots" (defArgs s_KeptBook_spots) (defBody s_KeptBook_spots) (defScope s_KeptBook_spots) (.ref T_KeptBook_spots) kV_KeptBook_spots dc_KeptBook_spots pm_KeptBook_spots an_KeptBook_spots cd_KeptBook_spots ct_KeptBook_spots), sl_KeptBook_spots⟩) (c_KeptBook_spots : PySem.W.codeIn K cd_KeptBook_spots "Book.spots" = true) (k_KeptBook_spots : PySem.W.keepIn K (.ref f_KeptBook_spots) = true) (lT_KeptBook_spots : K.lookup T_KeptBook_spots = some ⟨.type "tuple", odT_KeptBook_spots, .seq #[.none] nT_KeptBook_spots, slT_KeptBook_spots⟩) (at_KeptBook_lines_upto : PySem.W.findIn K (.ref C_KeptBook) "lines_upto" = some (some (.ref f_KeptBook_lines_upto))) (fn_KeptBook_lines_upto : PySem.W.isFn K (.ref f_KeptBook_lines_upto) = true) (l_KeptBook_lines_upto : K.lookup f_KeptBook_lines_upto = some ⟨oc_KeptBook_lines_upto, od_KeptBook_lines_upto, .func (PySem.W.fnOf "lines_upto" "Book.lines_upto" (defArgs s_KeptBook_lines_upto) (defBody s_KeptBook_lines_upto) (defScope s_KeptBook_lines_upto) (.ref T_KeptBook_lines_upto) kV_KeptBook_lines_upto dc_KeptBook_lines_upto pm_KeptBook_lines_upto an_KeptBook_lines_upto cd_KeptBook_lines_upto ct_KeptBook_lines_upto), sl_KeptBook_lines_upto⟩) (c_KeptBook_lines_upto : PySem.W.codeIn K cd_KeptBook_lines_upto "Book.lines_upto" = true) (k_KeptBook_lines_upto : PySem.W.keepIn K (.ref f_KeptBook_lines_upto) = true) (lT_KeptBook_lines_upto : K.lookup T_KeptBook_lines_upto = some ⟨.type "tuple", odT_KeptBook_lines_upto, .seq #[.none] nT_KeptBook_lines_upto, slT_KeptBook_lines_upto⟩) (at_KeptBook_figures : PySem.W.findIn K (.ref C_KeptBook) "figures" = some (some (.ref f_KeptBook_figures))) (fn_KeptBook_figures : PySem.W.isFn K (.ref f_KeptBook_figures) = true) (l_KeptBook_figures : K.lookup f_KeptBook_figures = some ⟨oc_KeptBook_figures, od_KeptBook_figures, .func (PySem.W.fnOf "figures" "Book.figures" (defArgs s_KeptBook_figures) (defBody s_KeptBook_figures) (defScope s_KeptBook_figures) (.ref T_KeptBook_figures) kV_KeptBook_figures dc_KeptBook_figures pm_KeptBook_figures an_KeptBook_figures cd_KeptBook_figures ct_KeptBook_figures), sl_KeptBook_figures⟩) (c_KeptBook_figures : PySem.W.codeIn K cd_KeptBook_figures "Book.figures" = true) (k_KeptBook_figures : PySem.W.keepIn K (.ref f_KeptBook_figures) = true) (lT_KeptBook_figures : K.lookup T_KeptBook_figures = some ⟨.type "tuple", odT_KeptBook_figures, .seq #[.none] nT_KeptBook_figures, slT_KeptBook_figures⟩) (a_paper_copy : PySem.W.nsIn K mainGlobals "paper_copy" = some (some (.ref f_paper_copy))) (l_paper_copy : K.lookup f_paper_copy = some ⟨oc_paper_copy, od_paper_copy, .func (PySem.W.fnOf "paper_copy" "paper_copy" (defArgs s_paper_copy) (defBody s_paper_copy) (defScope s_paper_copy) .none kV_paper_copy dc_paper_copy pm_paper_copy an_paper_copy cd_paper_copy ct_paper_copy), sl_paper_copy⟩) (c_paper_copy : PySem.W.codeIn K cd_paper_copy "paper_copy" = true) (k_paper_copy : PySem.W.keepIn K (.ref f_paper_copy) = true) (at_KeptBook_close : PySem.W.findIn K (.ref C_KeptBook) "close" = some (some (.ref f_KeptBook_close))) (fn_KeptBook_close : PySem.W.isFn K (.ref f_KeptBook_close) = true) (l_KeptBook_close : K.lookup f_KeptBook_close = some ⟨oc_KeptBook_close, od_KeptBook_close, .func (PySem.W.fnOf "close" "KeptBook.close" (defArgs s_KeptBook_close) (defBody s_KeptBook_close) (defScope s_KeptBook_close) .none kV_KeptBook_close dc_KeptBook_close pm_KeptBook_close an_KeptBook_close cd_KeptBook_close ct_KeptBook_close), sl_KeptBook_close⟩) (c_KeptBook_close : PySem.W.codeIn K cd_KeptBook_close "KeptBook.close" = true) (k_KeptBook_close : PySem.W.keepIn K (.ref f_KeptBook_close) = true) (at_KeptBook_reopen : PySem.W.findIn K (.ref C_KeptBook) "reopen" = some (some (.ref f_KeptBook_reopen))) (fn_KeptBook_reopen : PySem.W.isFn K (.ref f_KeptBook_reopen) = true) (l_KeptBook_reopen : K.lookup f_KeptBook_reopen = some ⟨oc_KeptBook_reopen, od_KeptBook_reopen, .func (PySem.W.fnOf "reopen" "KeptBook.reopen" (defArgs s_KeptBook_reopen) (defBody s_KeptBook_reopen) (defScope s_KeptBook_reopen) .none kV_KeptBook_reopen dc_KeptBook_reopen pm_KeptBook_reopen an_KeptBook_reopen cd_KeptBook_reopen ct_KeptBook_reopen), sl_KeptBook_reopen⟩) (c_KeptBook_reopen : PySem.W.codeIn K cd_KeptBook_reopen "KeptBook.reopen" = true) (k_KeptBook_reopen : PySem.W.keepIn K (.ref f_KeptBook_reopen) = true) (at_KeptBook_told_papers : PySem.W.findIn K (.ref C_KeptBook) "told_papers" = some (some (.ref f_KeptBook_told_papers))) (fn_KeptBook_told_papers : PySem.W.isFn K (.ref f_KeptBook_told_papers) = true) (l_KeptBook_told_papers : K.lookup f_KeptBook_told_papers = some ⟨oc_KeptBook_told_papers, od_KeptBook_told_papers, .func (PySem.W.fnOf "told_papers" "KeptBook.told_papers" (defArgs s_KeptBook_told_papers) (defBody s_KeptBook_told_papers) (defScope s_KeptBook_told_papers) .none kV_KeptBook_told_papers dc_KeptBook_told_papers pm_KeptBook_told_papers an_KeptBook_told_papers cd_KeptBook_told_papers ct_KeptBook_told_papers), sl_KeptBook_told_papers⟩) (c_KeptBook_told_papers : PySem.W.codeIn K cd_KeptBook_told_papers "KeptBook.told_papers" = true) (k_KeptBook_told_papers : PySem.W.keepIn K (.ref f_KeptBook_told_papers) = true) (at_KeptBook_standing : PySem.W.findIn K (.ref C_KeptBook) "standing" = some (some (.ref f_KeptBook_standing))) (fn_KeptBook_standing : PySem.W.isFn K (.ref f_KeptBook_standing) = true) (l_KeptBook_standing : K.lookup f_KeptBook_standing = some ⟨oc_KeptBook_standing, od_KeptBook_standing, .func (PySem.W.fnOf "standing" "KeptBook.standing" (defArgs s_KeptBook_standing) (defBody s_KeptBook_standing) (defScope s_KeptBook_standing) .none kV_KeptBook_standing dc_KeptBook_standing pm_KeptBook_standing an_KeptBook_standing cd_KeptBook_standing ct_KeptBook_standing), sl_KeptBook_standing⟩) (c_KeptBook_standing : PySem.W.codeIn K cd_KeptBook_standing "KeptBook.standing" = true) (k_KeptBook_standing : PySem.W.keepIn K (.ref f_KeptBook_standing) = true) (a__law_lines : PySem.W.nsIn K mainGlobals "_law_lines" = some (some (.ref f__law_lines))) (l__law_lines : K.lookup f__law_lines = some ⟨oc__law_lines, od__law_lines, .func (PySem.W.fnOf "_law_lines" "_law_lines" (defArgs s__law_lines) (defBody s__law_lines) (defScope s__law_lines) .none kV__law_lines dc__law_lines pm__law_lines an__law_lines cd__law_lines ct__law_lines), sl__law_lines⟩) (c__law_lines : PySem.W.codeIn K cd__law_lines "_law_lines" = true) (k__law_lines : PySem.W.keepIn K (.ref f__law_lines) = true) (a__law_figures : PySem.W.nsIn K mainGlobals "_law_figures" = some (some (.ref f__law_figures))) (l__law_figures : K.lookup f__law_figures = some ⟨oc__law_figures, od__law_figures, .func (PySem.W.fnOf "_law_figures" "_law_figures" (defArgs s__law_figures) (defBody s__law_figures) (defScope s__law_figures) .none kV__law_figures dc__law_figures pm__law_figures an__law_figures cd__law_figures ct__law_figures), sl__law_figures⟩) (c__law_figures : PySem.W.codeIn K cd__law_figures "_law_figures" = true) (k__law_figures : PySem.W.keepIn K (.ref f__law_figures) = true) (a__law_upto : PySem.W.nsIn K mainGlobals "_law_upto" = some (some (.ref f__law_upto))) (l__law_upto : K.lookup f__law_upto = some ⟨oc__law_upto, od__law_upto, .func (PySem.W.fnOf "_law_upto" "_law_upto" (defArgs s__law_upto) (defBody s__law_upto) (defScope s__law_upto) .none kV__law_upto dc__law_upto pm__law_upto an__law_upto cd__law_upto ct__law_upto), sl__law_upto⟩) (c__law_upto : PySem.W.codeIn K cd__law_upto "_law_upto" = true) (k__law_upto : PySem.W.keepIn K (.ref f__law_upto) = true) (at_KeptBook_entries : PySem.W.findIn K (.ref C_KeptBook) "entries" = some (some (.ref f_KeptBook_entries))) (fn_KeptBook_entries : PySem.W.isFn K (.ref f_KeptBook_entries) = true) (l_KeptBook_entries : K.lookup f_KeptBook_entries = some ⟨oc_KeptBook_entries, od_KeptBook_entries, .func (PySem.W.fnOf "entries" "Book.entries" (defArgs s_KeptBook_entries) (defBody s_KeptBook_entries) (defScope s_KeptBook_entries) .none kV_KeptBook_entries dc_KeptBook_entries pm_KeptBook_entries an_KeptBook_entries cd_KeptBook_entries ct_KeptBook_entries), sl_KeptBook_entries⟩) (c_KeptBook_entries : PySem.W.codeIn K cd_KeptBook_entries "Book.entries" = true) (k_KeptBook_entries : PySem.W.keepIn K (.ref f_KeptBook_entries) = true) (a_movement_of : PySem.W.nsIn K mainGlobals "movement_of" = some (some (.ref f_movement_of))) (l_movement_of : K.lookup f_movement_of = some ⟨oc_movement_of, od_movement_of, .func (PySem.W.fnOf "movement_of" "movement_of" (defArgs s_movement_of) (defBody s_movement_of) (defScope s_movement_of) .none kV_movement_of dc_movement_of pm_movement_of an_movement_of cd_movement_of ct_movement_of), sl_movement_of⟩) (c_movement_of : PySem.W.codeIn K cd_movement_of "movement_of" = true) (k_movement_of : PySem.W.keepIn K (.ref f_movement_of) = true) (a_carried : PySem.W.nsIn K mainGlobals "carried" = some (some (.ref f_carried))) (l_carried : K.lookup f_carried = some ⟨oc_carried, od_carried, .func (PySem.W.fnOf "carried" "carried" (defArgs s_carried) (defBody s_carried) (defScope s_carried) .none kV_carried dc_carried pm_carried an_carried cd_carried ct_carried), sl_carried⟩) (c_carried : PySem.W.codeIn K cd_carried "carried" = true) (k_carried : PySem.W.keepIn K (.ref f_carried) = true) (a_paper_holds : PySem.W.nsIn K mainGlobals "paper_holds" = some (some (.ref f_paper_holds))) (l_paper_holds : K.lookup f_paper_holds = some ⟨oc_paper_holds, od_paper_holds, .func (PySem.W.fnOf "paper_holds" "paper_holds" (defArgs s_paper_holds) (defBody s_paper_holds) (defScope s_paper_holds) .none kV_paper_holds dc_paper_holds pm_paper_holds an_paper_holds cd_paper_holds ct_paper_holds), sl_paper_holds⟩) (c_paper_holds : PySem.W.codeIn K cd_paper_holds "paper_holds" = true) (k_paper_holds : PySem.W.keepIn K (.ref f_paper_holds) = true) (a__law_paper : PySem.W.nsIn K mainGlobals "_law_paper" = some (some (.ref f__law_paper))) (l__law_paper : K.lookup f__law_paper = some ⟨oc__law_paper, od__law_paper, .func (PySem.W.fnOf "_law_paper" "_law_paper" (defArgs s__law_paper) (defBody s__law_paper) (defScope s__law_paper) .none kV__law_paper dc__law_paper pm__law_paper an__law_paper cd__law_paper ct__law_paper), sl__law_paper⟩) (c__law_paper : PySem.W.codeIn K cd__law_paper "_law_paper" = true) (k__law_paper : PySem.W.keepIn K (.ref f__law_paper) = true) (a__law_papers : PySem.W.nsIn K mainGlobals "_law_papers" = some (some (.ref f__law_papers))) (l__law_papers : K.lookup f__law_papers = some ⟨oc__law_papers, od__law_papers, .func (PySem.W.fnOf "_law_papers" "_law_papers" (defArgs s__law_papers) (defBody s__law_papers) (defScope s__law_papers) .none kV__law_papers dc__law_papers pm__law_papers an__law_papers cd__law_papers ct__law_papers), sl__law_papers⟩) (c__law_papers : PySem.W.codeIn K cd__law_papers "_law_papers" = true) (k__law_papers : PySem.W.keepIn K (.ref f__law_papers) = true) (a__law_copies : PySem.W.nsIn K mainGlobals "_law_copies" = some (some (.ref f__law_copies))) (l__law_copies : K.lookup f__law_copies = some ⟨oc__law_copies, od__law_copies, .func (PySem.W.fnOf "_law_copies" "_law_copies" (defArgs s__law_copies) (defBody s__law_copies) (defScope s__law_copies) .none kV__law_copies dc__law_copies pm__law_copies an__law_copies cd__law_copies ct__law_copies), sl__law_copies⟩) (c__law_copies : PySem.W.codeIn K cd__law_copies "_law_copies" = true) (k__law_copies : PySem.W.keepIn K (.ref f__law_copies) = true) (a__law_posted : PySem.W.nsIn K mainGlobals "_law_posted" = some (some (.ref f__law_posted))) (l__law_posted : K.lookup f__law_posted = some ⟨oc__law_posted, od__law_posted, .func (PySem.W.fnOf "_law_posted" "_law_posted" (defArgs s__law_posted) (defBody s__law_posted) (defScope s__law_posted) .none kV__law_posted dc__law_posted pm__law_posted an__law_posted cd__law_posted ct__law_posted), sl__law_posted⟩) (c__law_posted : PySem.W.codeIn K cd__law_posted "_law_posted" = true) (k__law_posted : PySem.W.keepIn K (.ref f__law_posted) = true) (a__law_opened : PySem.W.nsIn K mainGlobals "_law_opened" = some (some (.ref f__law_opened))) (l__law_opened : K.lookup f__law_opened = some ⟨oc__law_opened, od__law_opened, .func (PySem.W.fnOf "_law_opened" "_law_opened" (defArgs s__law_opened) (defBody s__law_opened) (defScope s__law_opened) .none kV__law_opened dc__law_opened pm__law_opened an__law_opened cd__law_opened ct__law_opened), sl__law_opened⟩) (c__law_opened : PySem.W.codeIn K cd__law_opened "_law_opened" = true) (k__law_opened : PySem.W.keepIn K (.ref f__law_opened) = true) (a__law_other : PySem.W.nsIn K mainGlobals "_law_other" = some (some (.ref f__law_other))) (l__law_other : K.lookup f__law_other = some ⟨oc__law_other, od__law_other, .func (PySem.W.fnOf "_law_other" "_law_other" (defArgs s__law_other) (defBody s__law_other) (defScope s__law_other) .none kV__law_other dc__law_other pm__law_other an__law_other cd__law_other ct__law_other), sl__law_other⟩) (c__law_other : PySem.W.codeIn K cd__law_other "_law_other" = true) (k__law_other : PySem.W.keepIn K (.ref f__law_other) = true) (a__law_look : PySem.W.nsIn K mainGlobals "_law_look" = some (some (.ref f__law_look))) (l__law_look : K.lookup f__law_look = some ⟨oc__law_look, od__law_look, .func (PySem.W.fnOf "_law_look" "_law_look" (defArgs s__law_look) (defBody s__law_look) (defScope s__law_look) .none kV__law_look dc__law_look pm__law_look an__law_look cd__law_look ct__law_look), sl__law_look⟩) (c__law_look : PySem.W.codeIn K cd__law_look "_law_look" = true) (k__law_look : PySem.W.keepIn K (.ref f__law_look) = true) (a__law_step : PySem.W.nsIn K mainGlobals "_law_step" = some (some (.ref f__law_step))) (l__law_step : K.lookup f__law_step = some ⟨oc__law_step, od__law_step, .func (PySem.W.fnOf "_law_step" "_law_step" (defArgs s__law_step) (defBody s__law_step) (defScope s__law_step) .none kV__law_step dc__law_step pm__law_step an__law_step cd__law_step ct__law_step), sl__law_step⟩) (c__law_step : PySem.W.codeIn K cd__law_step "_law_step" = true) (k__law_step : PySem.W.keepIn K (.ref f__law_step) = true) (a__law_end : PySem.W.nsIn K mainGlobals "_law_end" = some (some (.ref f__law_end))) (l__law_end : K.lookup f__law_end = some ⟨oc__law_end, od__law_end, .func (PySem.W.fnOf "_law_end" "_law_end" (defArgs s__law_end) (defBody s__law_end) (defScope s__law_end) .none kV__law_end dc__law_end pm__law_end an__law_end cd__law_end ct__law_end), sl__law_end⟩) (c__law_end : PySem.W.codeIn K cd__law_end "_law_end" = true) (k__law_end : PySem.W.keepIn K (.ref f__law_end) = true) (af_Book___init__B : PySem.W.findIn K (.ref C_Book) "__init__" = some (some (.ref f_Book___init__B))) (at_Book___init__B : PySem.W.findCls K (.ref C_Book) (.type "type") "__init__" = some (.val (.ref f_Book___init__B))) (l_Book___init__B : K.lookup f_Book___init__B = some ⟨oc_Book___init__B, od_Book___init__B, .func (PySem.W.fnOf "__init__" "Book.__init__" (defArgs s_Book___init__B) (defBody s_Book___init__B) (defScope s_Book___init__B) .none kV_Book___init__B dc_Book___init__B pm_Book___init__B an_Book___init__B cd_Book___init__B ct_Book___init__B), sl_Book___init__B⟩) (c_Book___init__B : PySem.W.codeIn K cd_Book___init__B "Book.__init__" = true) (k_Book___init__B : PySem.W.keepIn K (.ref f_Book___init__B) = true) (at_KeptBook___init__ : PySem.W.findIn K (.ref C_KeptBook) "__init__" = some (some (.ref f_KeptBook___init__))) (fn_KeptBook___init__ : PySem.W.isFn K (.ref f_KeptBook___init__) = true) (l_KeptBook___init__ : K.lookup f_KeptBook___init__ = some ⟨oc_KeptBook___init__, od_KeptBook___init__, .func (PySem.W.fnOf "__init__" "KeptBook.__init__" (defArgs s_KeptBook___init__) (defBody s_KeptBook___init__) (defScope s_KeptBook___init__) .none kV_KeptBook___init__ dc_KeptBook___init__ pm_KeptBook___init__ an_KeptBook___init__ cd_KeptBook___init__ ct_KeptBook___init__), sl_KeptBook___init__⟩) (c_KeptBook___init__ : PySem.W.codeIn K cd_KeptBook___init__ "KeptBook.__init__" = true) (k_KeptBook___init__ : PySem.W.keepIn K (.ref f_KeptBook___init__) = true) (a_law : PySem.W.nsIn K mainGlobals "law" = some (some (.ref f_law))) (l_law : K.lookup f_law = some ⟨oc_law, od_law, .func (PySem.W.fnOf "law" "law" (defArgs s_law) (defBody s_law) (defScope s_law) .none kV_law dc_law pm_law an_law cd_law ct_law), sl_law⟩) (c_law : PySem.W.codeIn K cd_law "law" = true) (k_law : PySem.W.keepIn K (.ref f_law) = true) :
   ∃ fd : FuncData, (∀ (s : Shared) (v : Value), BindsTo s fd ⟨[v], []⟩ [("_law_script", v)]) ∧ ∀ base : Heap, K.In base → base.Ns mainGlobals mg → FnOk l.prog w K mg base CX0 true 8 fa fd ["_law_script"] (spLaw K) := by
 have e := hfa.symm.trans (PySem.W.mg_of X G a_law)
 cases e
 have m_BadPaper := PySem.W.mg_of X G a_BadPaper
 have m_Book := PySem.W.mg_of X G a_Book
 have m_Closed := PySem.W.mg_of X G a_Closed
 have m_KeptBook := PySem.W.mg_of X G a_KeptBook
 have X_Closed : XCls K C_Closed := ⟨xs_Closed, xga_Closed, xgh_Closed, xsa_Closed, xcl_Closed⟩
 have X_BadPaper : XCls K C_BadPaper := ⟨xs_BadPaper, xga_BadPaper, xgh_BadPaper, xsa_BadPaper, xcl_BadPaper⟩
 have z_list := PySem.W.mg_none_of X G nz_list
 have z_sorted := PySem.W.mg_none_of X G nz_sorted
 have z_sum := PySem.W.mg_none_of X G nz_sum
 have z_len := PySem.W.mg_none_of X G nz_len
 have z_isinstance := PySem.W.mg_none_of X G nz_isinstance
 have z_int := PySem.W.mg_none_of X G nz_int
 have z_bool := PySem.W.mg_none_of X G nz_bool
 have z_range := PySem.W.mg_none_of X G nz_range
 have z_tuple := PySem.W.mg_none_of X G nz_tuple
 have z_enumerate := PySem.W.mg_none_of X G nz_enumerate
 have z_str := PySem.W.mg_none_of X G nz_str
 have z_max := PySem.W.mg_none_of X G nz_max
 have cl_KeptBook : Cls K C_KeptBook := ⟨pg_KeptBook, hd_KeptBook, po_KeptBook, sa_KeptBook⟩
 refine ⟨PySem.W.fnOf "law" "law" (defArgs s_law) (defBody s_law) (defScope s_law) .none kV_law dc_law pm_law an_law cd_law ct_law, fun s v => .of_eq rfl, fun base _ _ => ?_⟩
 have q_rests_of := ok_rests_of (P := l.prog) (w := w) (base := base) ⟨f_rests_of, _, funD_mk (st := s_rests_of) l_rests_of c_rests_of k_rests_of, PySem.W.mg_of X G a_rests_of⟩ z_list
 have q_month_of := ok_month_of (P := l.prog) (w := w) (base := base) (cm := true) ⟨f_month_of, _, funD_mk (st := s_month_of) l_month_of c_month_of k_month_of, PySem.W.mg_of X G a_month_of⟩
 have q_put_together := ok_put_together (P := l.prog) (w := w) (base := base) ⟨f_put_together, _, funD_mk (st := s_put_together) l_put_together c_put_together k_put_together, PySem.W.mg_of X G a_put_together⟩ z_sorted
 have q_figures_of := ok_figures_of (P := l.prog) (w := w) (base := base) ⟨f_figures_of, _, funD_mk (st := s_figures_of) l_figures_of c_figures_of k_figures_of, PySem.W.mg_of X G a_figures_of⟩ q_put_together
 have q_check_entry := ok_check_entry (P := l.prog) (w := w) (base := base) ⟨f_check_entry, _, funD_mk (st := s_check_entry) l_check_entry c_check_entry k_check_entry, PySem.W.mg_of X G a_check_entry⟩ q_rests_of z_sum
 have q__law_cell := ok__law_cell (P := l.prog) (w := w) (base := base) (cm := true) ⟨f__law_cell, _, funD_mk (st := s__law_cell) l__law_cell c__law_cell k__law_cell, PySem.W.mg_of X G a__law_cell⟩ z_len
 have q__law_whole := ok__law_whole (P := l.prog) (w := w) (base := base) (cm := true) ⟨f__law_whole, _, funD_mk (st := s__law_whole) l__law_whole c__law_whole k__law_whole, PySem.W.mg_of X G a__law_whole⟩ z_isinstance z_int z_bool q_ib
 have q__law_names := ok__law_names (P := l.prog) (w := w) (base := base) ⟨f__law_names, _, funD_mk (st := s__law_names) l__law_names c__law_names k__law_names, PySem.W.mg_of X G a__law_names⟩ z_range
 have q__law_amount := ok__law_amount (P := l.prog) (w := w) (base := base) (cm := true) ⟨f__law_amount, _, funD_mk (st := s__law_amount) l__law_amount c__law_amount k__law_amount, PySem.W.mg_of X G a__law_amount⟩
 have q_Closed__init__ := ok_Closed__init__ (P := l.prog) (w := w) (mg := mg) (base := base) X_Closed n_Closedbook n_Closedmonth ⟨f_Closed__init__, _, funD_mk (st := s_Closed__init__) l_Closed__init__ c_Closed__init__ k_Closed__init__, at_Closed__init__, fn_Closed__init__⟩
 have q_BadPaper__init__ := ok_BadPaper__init__ (P := l.prog) (w := w) (mg := mg) (base := base) X_BadPaper n_BadPaperbook n_BadPapermonth ⟨f_BadPaper__init__, _, funD_mk (st := s_BadPaper__init__) l_BadPaper__init__ c_BadPaper__init__ k_BadPaper__init__, at_BadPaper__init__, fn_BadPaper__init__⟩
 have q_KeptBook_closed := ok_KeptBook_closed (P := l.prog) (w := w) (mg := mg) (base := base) (cm := true) ⟨f_KeptBook_closed, _, funD_mk (st := s_KeptBook_closed) l_KeptBook_closed c_KeptBook_closed k_KeptBook_closed, ⟨at_KeptBook_closed, fn_KeptBook_closed, k_KeptBook_closed⟩⟩ z_len cl_KeptBook n_book n_kept n_papers n_in_force
 have q_KeptBook_may_enter := ok_KeptBook_may_enter (P := l.prog) (w := w) (mg := mg) (base := base) ⟨f_KeptBook_may_enter, _, funD_mk (st := s_KeptBook_may_enter) l_KeptBook_may_enter c_KeptBook_may_enter k_KeptBook_may_enter, ⟨at_KeptBook_may_enter, fn_KeptBook_may_enter, k_KeptBook_may_enter⟩⟩ q_month_of q_KeptBook_closed q_Closed__init__ m_Closed X_Closed cl_KeptBook n_book n_kept n_papers n_in_force
 have q_KeptBook_post := ok_KeptBook_post (P := l.prog) (w := w) (mg := mg) (base := base) ⟨f_KeptBook_post, _, funD_mk (st := s_KeptBook_post) l_KeptBook_post c_KeptBook_post k_KeptBook_post, ⟨at_KeptBook_post, fn_KeptBook_post, k_KeptBook_post⟩⟩ q_KeptBook_may_enter q_check_entry z_tuple z_len cl_KeptBook n_book n_kept n_papers n_in_force
 have q_KeptBook_spots := ok_KeptBook_spots (P := l.prog) (w := w) (mg := mg) (base := base) ⟨f_KeptBook_spots, _, funD_mk (st := s_KeptBook_spots) l_KeptBook_spots c_KeptBook_spots k_KeptBook_spots, ⟨at_KeptBook_spots, fn_KeptBook_spots, k_KeptBook_spots⟩⟩ lT_KeptBook_spots q_month_of z_enumerate cl_KeptBook n_book n_kept n_papers n_in_force
 have q_KeptBook_lines_upto := ok_KeptBook_lines_upto (P := l.prog) (w := w) (mg := mg) (base := base) ⟨f_KeptBook_lines_upto, _, funD_mk (st := s_KeptBook_lines_upto) l_KeptBook_lines_upto c_KeptBook_lines_upto k_KeptBook_lines_upto, ⟨at_KeptBook_lines_upto, fn_KeptBook_lines_upto, k_KeptBook_lines_upto⟩⟩ lT_KeptBook_lines_upto q_KeptBook_spots cl_KeptBook n_book n_kept n_papers n_in_force
 have q_KeptBook_figures := ok_KeptBook_figures (P := l.prog) (w := w) (mg := mg) (base := base) ⟨f_KeptBook_figures, _, funD_mk (st := s_KeptBook_figures) l_KeptBook_figures c_KeptBook_figures k_KeptBook_figures, ⟨at_KeptBook_figures, fn_KeptBook_figures, k_KeptBook_figures⟩⟩ lT_KeptBook_figures q_figures_of q_KeptBook_lines_upto cl_KeptBook n_book n_kept n_papers n_in_force
 have q_paper_copy := ok_paper_copy (P := l.prog) (w := w) (base := base) (cm := true) ⟨f_paper_copy, _, funD_mk (st := s_paper_copy) l_paper_copy c_paper_copy k_paper_copy, PySem.W.mg_of X G a_paper_copy⟩ z_list
 have q_KeptBook_close := ok_KeptBook_close (P := l.prog) (w := w) (mg := mg) (base := base) ⟨f_KeptBook_close, _, funD_mk (st := s_KeptBook_close) l_KeptBook_close c_KeptBook_close k_KeptBook_close, ⟨at_KeptBook_close, fn_KeptBook_close, k_KeptBook_close⟩⟩ q_KeptBook_closed q_KeptBook_figures q_paper_copy z_len cl_KeptBook n_book n_kept n_papers n_in_force
 have q_KeptBook_reopen := ok_KeptBook_reopen (P := l.prog) (w := w) (mg := mg) (base := base) ⟨f_KeptBook_reopen, _, funD_mk (st := s_KeptBook_reopen) l_KeptBook_reopen c_KeptBook_reopen k_KeptBook_reopen, ⟨at_KeptBook_reopen, fn_KeptBook_reopen, k_KeptBook_reopen⟩⟩ q_KeptBook_closed q_BadPaper__init__ m_BadPaper X_BadPaper cl_KeptBook n_book n_kept n_papers n_in_force
 have q_KeptBook_told_papers := ok_KeptBook_told_papers (P := l.prog) (w := w) (mg := mg) (base := base) ⟨f_KeptBook_told_papers, _, funD_mk (st := s_KeptBook_told_papers) l_KeptBook_told_papers c_KeptBook_told_papers k_KeptBook_told_papers, ⟨at_KeptBook_told_papers, fn_KeptBook_told_papers, k_KeptBook_told_papers⟩⟩ q_paper_copy cl_KeptBook n_book n_kept n_papers n_in_force
 have q_KeptBook_standing := ok_KeptBook_standing (P := l.prog) (w := w) (mg := mg) (base := base) ⟨f_KeptBook_standing, _, funD_mk (st := s_KeptBook_standing) l_KeptBook_standing c_KeptBook_standing k_KeptBook_standing, ⟨at_KeptBook_standing, fn_KeptBook_standing, k_KeptBook_standing⟩⟩ q_paper_copy cl_KeptBook n_book n_kept n_papers n_in_force
 have q__law_lines := ok__law_lines (P := l.prog) (w := w) (base := base) ⟨f__law_lines, _, funD_mk (st := s__law_lines) l__law_lines c__law_lines k__law_lines, PySem.W.mg_of X G a__law_lines⟩ q__law_amount
 have q__law_figures := ok__law_figures (P := l.prog) (w := w) (base := base) ⟨f__law_figures, _, funD_mk (st := s__law_figures) l__law_figures c__law_figures k__law_figures, PySem.W.mg_of X G a__law_figures⟩ z_sorted
 have q__law_upto := ok__law_upto (P := l.prog) (w := w) (base := base) ⟨f__law_upto, _, funD_mk (st := s__law_upto) l__law_upto c__law_upto k__law_upto, PySem.W.mg_of X G a__law_upto⟩ q__law_figures
 have q_KeptBook_entries := ok_KeptBook_entries (P := l.prog) (w := w) (mg := mg) (base := base) ⟨f_KeptBook_entries, _, funD_mk (st := s_KeptBook_entries) l_KeptBook_entries c_KeptBook_entries k_KeptBook_entries, ⟨at_KeptBook_entries, fn_KeptBook_entries, k_KeptBook_entries⟩⟩ z_list cl_KeptBook n_book n_kept n_papers n_in_force
 have q_movement_of := ok_movement_of (P := l.prog) (w := w) (base := base) ⟨f_movement_of, _, funD_mk (st := s_movement_of) l_movement_of c_movement_of k_movement_of, PySem.W.mg_of X G a_movement_of⟩ q_KeptBook_entries q_month_of q_figures_of cl_KeptBook
 have q_carried := ok_carried (P := l.prog) (w := w) (base := base) ⟨f_carried, _, funD_mk (st := s_carried) l_carried c_carried k_carried, PySem.W.mg_of X G a_carried⟩ q_put_together
 have q_paper_holds := ok_paper_holds (P := l.prog) (w := w) (base := base) ⟨f_paper_holds, _, funD_mk (st := s_paper_holds) l_paper_holds c_paper_holds k_paper_holds, PySem.W.mg_of X G a_paper_holds⟩ q_KeptBook_figures cl_KeptBook n_book
 have q__law_paper := ok__law_paper (P := l.prog) (w := w) (base := base) ⟨f__law_paper, _, funD_mk (st := s__law_paper) l__law_paper c__law_paper k__law_paper, PySem.W.mg_of X G a__law_paper⟩ q__law_whole z_isinstance z_tuple z_len z_list z_str
 have q__law_papers := ok__law_papers (P := l.prog) (w := w) (base := base) ⟨f__law_papers, _, funD_mk (st := s__law_papers) l__law_papers c__law_papers k__law_papers, PySem.W.mg_of X G a__law_papers⟩ q__law_paper z_isinstance z_list z_len z_range
 have q__law_copies := ok__law_copies (P := l.prog) (w := w) (base := base) ⟨f__law_copies, _, funD_mk (st := s__law_copies) l__law_copies c__law_copies k__law_copies, PySem.W.mg_of X G a__law_copies⟩ z_list
 have q__law_posted := ok__law_posted (P := l.prog) (w := w) (base := base) ⟨f__law_posted, _, funD_mk (st := s__law_posted) l__law_posted c__law_posted k__law_posted, PySem.W.mg_of X G a__law_posted⟩ q_KeptBook_post z_list m_Closed cl_KeptBook q_mC
 have q__law_opened := ok__law_opened (P := l.prog) (w := w) (base := base) ⟨f__law_opened, _, funD_mk (st := s__law_opened) l__law_opened c__law_opened k__law_opened, PySem.W.mg_of X G a__law_opened⟩ q_KeptBook_reopen z_int m_BadPaper cl_KeptBook q_mB
 have q__law_other := ok__law_other (P := l.prog) (w := w) (base := base) ⟨f__law_other, _, funD_mk (st := s__law_other) l__law_other c__law_other k__law_other, PySem.W.mg_of X G a__law_other⟩ z_len z_list
 have q__law_look := ok__law_look (P := l.prog) (w := w) (base := base) ⟨f__law_look, _, funD_mk (st := s__law_look) l__law_look c__law_look k__law_look, PySem.W.mg_of X G a__law_look⟩ q__law_whole q_KeptBook_closed q_KeptBook_told_papers q_KeptBook_standing q__law_papers q__law_copies z_range z_len cl_KeptBook
 have q__law_step := ok__law_step (P := l.prog) (w := w) (base := base) ⟨f__law_step, _, funD_mk (st := s__law_step) l__law_step c__law_step k__law_step, PySem.W.mg_of X G a__law_step⟩ q__law_lines q__law_posted q__law_whole q__law_upto q__law_paper q_KeptBook_close q__law_opened q__law_copies q__law_other z_max z_len cl_KeptBook
 have q__law_end := ok__law_end (P := l.prog) (w := w) (base := base) ⟨f__law_end, _, funD_mk (st := s__law_end) l__law_end c__law_end k__law_end, PySem.W.mg_of X G a__law_end⟩ q_KeptBook_standing q_paper_holds q__law_upto q_carried q_movement_of q__law_papers cl_KeptBook
 have q_Book___init__B := ok_Book___init__B (P := l.prog) (w := w) (mg := mg) (base := base) (cm := true) cl_KeptBook n_book n_kept n_papers n_in_force ⟨f_Book___init__B, _, funD_mk (st := s_Book___init__B) l_Book___init__B c_Book___init__B k_Book___init__B, at_Book___init__B, k_Book___init__B⟩
 have q_KeptBook___init__ := ok_KeptBook___init__ (P := l.prog) (w := w) (mg := mg) (base := base) ⟨f_KeptBook___init__, _, funD_mk (st := s_KeptBook___init__) l_KeptBook___init__ c_KeptBook___init__ k_KeptBook___init__, ⟨mk_KeptBook, at_KeptBook___init__, fn_KeptBook___init__, kc_KeptBook⟩⟩ q_Book___init__B m_Book cl_KeptBook n_book n_kept n_papers n_in_force q_bga q_brd
 exact ok_law (P := l.prog) (w := w) (base := base) (funD_mk (st := s_law) l_law c_law k_law) q__law_names q__law_cell q_KeptBook___init__ q__law_step q__law_look q__law_papers q__law_end z_range z_len m_KeptBook cl_KeptBook
theorem walk {l : PySem.W.OpenLaw} {q : Program} {loose : List Str} {XP : (Str → Option Value) → Heap → Prop} {YP : World → Heap → Prop} {d : DefRec} {K : Params → PySem.W.Frag} (hn : l.most = some 63) (hdf : d.params.defaults = [])
   (hY : ∀ (w : World) (h : Heap), YP w h → (K w.params).In h)
   (F : ∀ (w : World) (mg : Str → Option Value) (fa : Addr) (h : Heap), (K w.params).In h → h.Ns mainGlobals mg → mg d.name = some (.ref fa) →
     ∃ fd : FuncData, (∀ (s : Shared) (u : Value), BindsTo s fd ⟨[u], []⟩ [("_law_script", u)]) ∧ ∀ base : Heap, (K w.params).In base → base.Ns mainGlobals mg → FnOk l.prog w (K w.params) mg base CX0 true 8 fa fd ["_law_script"] (spLaw (K w.params))) :
   PySem.W.WalkO q loose XP YP l.row.toRowW d [] (fun f vs => PySem.call f vs) :=
 L2.walk_ofB (n := 63) (k := 8) (x := "_law_script") (CX := fun _ => CX0) (sp := fun w => spLaw (K w.params)) hn (by decide) hdf ⟨fun _ => rfl, by decide, by decide⟩ hY F (fun _ _ a ns hl hb _ hS => ⟨a, ns, rfl, hS, hl, hb, fun _ => rfl⟩) fun _ _ _ _ _ z => z
end K36
open PySem PySem.W PyProof.Rows
set_option maxRecDepth 100000 in
set_option maxHeartbeats 0 in
theorem PySem.Challenge.cw_groupbooks_k36_whole_closed_stay_holds : PySem.Challenge.rw_groupbooks_k36_whole_closed_stay.Holds := by
 refine K36.headTop ?_
 k_fill
 refine K36.walk (l := PySem.Challenge.rw_groupbooks_k36_whole_closed_stay) rfl rfl (fun w h Y => PySem.W.kIn_of Y) ?F
 case F =>
   intro w mg fa h KX G hmg
   refine' K36.all_mk KX G hmg ?a_BadPaper ?a_Book ?a_Closed ?a_KeptBook ?xs_Closed ?xga_Closed ?xgh_Closed ?xsa_Closed ?xcl_Closed ?xs_BadPaper ?xga_BadPaper ?xgh_BadPaper ?xsa_BadPaper ?xcl_BadPaper ?nz_list ?nz_sorted ?nz_sum ?nz_len ?nz_isinstance ?nz_int ?nz_bool ?nz_range ?nz_tuple ?nz_enumerate ?nz_str ?nz_max ?q_ib ?q_mC ?q_mB ?q_bga ?q_brd ?pg_KeptBook ?hd_KeptBook ?po_KeptBook ?sa_KeptBook ?mk_KeptBook ?kc_KeptBook ?n_Closedbook ?n_Closedmonth ?n_BadPaperbook ?n_BadPapermonth ?n_book ?n_kept ?n_papers ?n_in_force ?a_rests_of ?l_rests_of ?c_rests_of ?k_rests_of ?a_month_of ?l_month_of ?c_month_of ?k_month_of ?a_put_together ?l_put_together ?c_put_together ?k_put_together ?a_figures_of ?l_figures_of ?c_figures_of ?k_figures_of ?a_check_entry ?l_check_entry ?c_check_entry ?k_check_entry ?a__law_cell ?l__law_cell ?c__law_cell ?k__law_cell ?a__law_whole ?l__law_whole ?c__law_whole ?k__law_whole ?a__law_names ?l__law_names ?c__law_names ?k__law_names ?a__law_amount ?l__law_amount ?c__law_amount ?k__law_amount ?at_Closed__init__ ?fn_Closed__init__ ?l_Closed__init__ ?c_Closed__init__ ?k_Closed__init__ ?at_BadPaper__init__ ?fn_BadPaper__init__ ?l_BadPaper__init__ ?c_BadPaper__init__ ?k_BadPaper__init__ ?at_KeptBook_closed ?fn_KeptBook_closed ?l_KeptBook_closed ?c_KeptBook_closed ?k_KeptBook_closed ?at_KeptBook_may_enter ?fn_KeptBook_may_enter ?l_KeptBook_may_enter ?c_KeptBook_may_enter ?k_KeptBook_may_enter ?at_KeptBook_post ?fn_KeptBook_post ?l_KeptBook_post ?c_KeptBook_post ?k_KeptBook_post ?at_KeptBook_spots ?fn_KeptBook_spots ?l_KeptBook_spots ?c_KeptBook_spots ?k_KeptBook_spots ?lT_KeptBook_spots ?at_KeptBook_lines_upto ?fn_KeptBook_lines_upto ?l_KeptBook_lines_upto ?c_KeptBook_lines_upto ?k_KeptBook_lines_upto ?lT_KeptBook_lines_upto ?at_KeptBook_figures ?fn_KeptBook_figures ?l_KeptBook_figures ?c_KeptBook_figures ?k_KeptBook_figures ?lT_KeptBook_figures ?a_paper_copy ?l_paper_copy ?c_paper_copy ?k_paper_copy ?at_KeptBook_close ?fn_KeptBook_close ?l_KeptBook_close ?c_KeptBook_close ?k_KeptBook_close ?at_KeptBook_reopen ?fn_KeptBook_reopen ?l_KeptBook_reopen ?c_KeptBook_reopen ?k_KeptBook_reopen ?at_KeptBook_told_papers ?fn_KeptBook_told_papers ?l_KeptBook_told_papers ?c_KeptBook_told_papers ?k_KeptBook_told_papers ?at_KeptBook_standing ?fn_KeptBook_standing ?l_KeptBook_standing ?c_KeptBook_standing ?k_KeptBook_standing ?a__law_lines ?l__law_lines ?c__law_lines ?k__law_lines ?a__law_figures ?l__law_figures ?c__law_figures ?k__law_figures ?a__law_upto ?l__law_upto ?c__law_upto ?k__law_upto ?at_KeptBook_entries ?fn_KeptBook_entries ?l_KeptBook_entries ?c_KeptBook_entries ?k_KeptBook_entries ?a_movement_of ?l_movement_of ?c_movement_of ?k_movement_of ?a_carried ?l_carried ?c_carried ?k_carried ?a_paper_holds ?l_paper_holds ?c_paper_holds ?k_paper_holds ?a__law_paper ?l__law_paper ?c__law_paper ?k__law_paper ?a__law_papers ?l__law_papers ?c__law_papers ?k__law_papers ?a__law_copies ?l__law_copies ?c__law_copies ?k__law_copies ?a__law_posted ?l__law_posted ?c__law_posted ?k__law_posted ?a__law_opened ?l__law_opened ?c__law_opened ?k__law_opened ?a__law_other ?l__law_other ?c__law_other ?k__law_other ?a__law_look ?l__law_look ?c__law_look ?k__law_look ?a__law_step ?l__law_step ?c__law_step ?k__law_step ?a__law_end ?l__law_end ?c__law_end ?k__law_end ?af_Book___init__B ?at_Book___init__B ?l_Book___init__B ?c_Book___init__B ?k_Book___init__B ?at_KeptBook___init__ ?fn_KeptBook___init__ ?l_KeptBook___init__ ?c_KeptBook___init__ ?k_KeptBook___init__ ?a_law ?l_law ?c_law ?k_law
   (case a_BadPaper => k_is)
   (case a_Book => k_is)
   (case a_Closed => k_is)
   (case a_KeptBook => k_is)
   (case xga_Closed => k_is)
   (case xgh_Closed => k_is)
   (case xsa_Closed => k_is)
   (case xcl_Closed => k_is)
   (case xga_BadPaper => k_is)
   (case xgh_BadPaper => k_is)
   (case xsa_BadPaper => k_is)
   (case xcl_BadPaper => k_is)
   (case nz_list => k_is)
   (case nz_sorted => k_is)
   (case nz_sum => k_is)
   (case nz_len => k_is)
   (case nz_isinstance => k_is)
   (case nz_int => k_is)
   (case nz_bool => k_is)
   (case nz_range => k_is)
   (case nz_tuple => k_is)
   (case nz_enumerate => k_is)
   (case nz_str => k_is)
   (case nz_max => k_is)
   (case pg_KeptBook => k_is)
   (case hd_KeptBook => k_is)
   (case po_KeptBook => k_is)
   (case sa_KeptBook => k_is)
   (case mk_KeptBook => k_is)
   (case kc_KeptBook => k_is)
   (case n_Closedbook => k_is)
   (case n_Closedmonth => k_is)
   (case n_BadPaperbook => k_is)
   (case n_BadPapermonth => k_is)
   (case n_book => k_is)
   (case n_kept => k_is)
   (case n_papers => k_is)
   (case n_in_force => k_is)
   (case a_rests_of => k_is)
   (case l_rests_of => k_is)
   (case c_rests_of => k_is)
   (case k_rests_of => k_is)
   (case a_month_of => k_is)
   (case l_month_of => k_is)
   (case c_month_of => k_is)
   (case k_month_of => k_is)
   (case a_put_together => k_is)
   (case l_put_together => k_is)
   (case c_put_together => k_is)
   (case k_put_together => k_is)
   (case a_figures_of => k_is)
   (case l_figures_of => k_is)
   (case c_figures_of => k_is)
   (case k_figures_of => k_is)
   (case a_check_entry => k_is)
   (case l_check_entry => k_is)
   (case c_check_entry => k_is)
   (case k_check_entry => k_is)
   (case a__law_cell => k_is)
   (case l__law_cell => k_is)
   (case c__law_cell => k_is)
   (case k__law_cell => k_is)
   (case a__law_whole => k_is)
   (case l__law_whole => k_is)
   (case c__law_whole => k_is)
   (case k__law_whole => k_is)
   (case a__law_names => k_is)
   (case l__law_names => k_is)
   (case c__law_names => k_is)
   (case k__law_names => k_is)
   (case a__law_amount => k_is)
   (case l__law_amount => k_is)
   (case c__law_amount => k_is)
   (case k__law_amount => k_is)
   (case at_Closed__init__ => k_is)
   (case fn_Closed__init__ => k_is)
   (case l_Closed__init__ => k_is)
   (case c_Closed__init__ => k_is)
   (case k_Closed__init__ => k_is)
   (case at_BadPaper__init__ => k_is)
   (case fn_BadPaper__init__ => k_is)
   (case l_BadPaper__init__ => k_is)
   (case c_BadPaper__init__ => k_is)
   (case k_BadPaper__init__ => k_is)
   (case at_KeptBook_closed => k_is)
   (case fn_KeptBook_closed => k_is)
   (case l_KeptBook_closed => k_is)
   (case c_KeptBook_closed => k_is)
   (case k_KeptBook_closed => k_is)
   (case at_KeptBook_may_enter => k_is)
   (case fn_KeptBook_may_enter => k_is)
   (case l_KeptBook_may_enter => k_is)
   (case c_KeptBook_may_enter => k_is)
   (case k_KeptBook_may_enter => k_is)
   (case at_KeptBook_post => k_is)
   (case fn_KeptBook_post => k_is)
   (case l_KeptBook_post => k_is)
   (case c_KeptBook_post => k_is)
   (case k_KeptBook_post => k_is)
   (case at_KeptBook_spots => k_is)
   (case fn_KeptBook_spots => k_is)
   (case l_KeptBook_spots => k_is)
   (case c_KeptBook_spots => k_is)
   (case k_KeptBook_spots => k_is)
   (case lT_KeptBook_spots => k_is)
   (case at_KeptBook_lines_upto => k_is)
   (case fn_KeptBook_lines_upto => k_is)
   (case l_KeptBook_lines_upto => k_is)
   (case c_KeptBook_lines_upto => k_is)
   (case k_KeptBook_lines_upto => k_is)
   (case lT_KeptBook_lines_upto => k_is)
   (case at_KeptBook_figures => k_is)
   (case fn_KeptBook_figures => k_is)
   (case l_KeptBook_figures => k_is)
   (case c_KeptBook_figures => k_is)
   (case k_KeptBook_figures => k_is)
   (case lT_KeptBook_figures => k_is)
   (case a_paper_copy => k_is)
   (case l_paper_copy => k_is)
   (case c_paper_copy => k_is)
   (case k_paper_copy => k_is)
   (case at_KeptBook_close => k_is)
   (case fn_KeptBook_close => k_is)
   (case l_KeptBook_close => k_is)
   (case c_KeptBook_close => k_is)
   (case k_KeptBook_close => k_is)
   (case at_KeptBook_reopen => k_is)
   (case fn_KeptBook_reopen => k_is)
   (case l_KeptBook_reopen => k_is)
   (case c_KeptBook_reopen => k_is)
   (case k_KeptBook_reopen => k_is)
   (case at_KeptBook_told_papers => k_is)
   (case fn_KeptBook_told_papers => k_is)
   (case l_KeptBook_told_papers => k_is)
   (case c_KeptBook_told_papers => k_is)
   (case k_KeptBook_told_papers => k_is)
   (case at_KeptBook_standing => k_is)
   (case fn_KeptBook_standing => k_is)
   (case l_KeptBook_standing => k_is)
   (case c_KeptBook_standing => k_is)
   (case k_KeptBook_standing => k_is)
   (case a__law_lines => k_is)
   (case l__law_lines => k_is)
   (case c__law_lines => k_is)
   (case k__law_lines => k_is)
   (case a__law_figures => k_is)
   (case l__law_figures => k_is)
   (case c__law_figures => k_is)
   (case k__law_figures => k_is)
   (case a__law_upto => k_is)
   (case l__law_upto => k_is)
   (case c__law_upto => k_is)
   (case k__law_upto => k_is)
   (case at_KeptBook_entries => k_is)
   (case fn_KeptBook_entries => k_is)
   (case l_KeptBook_entries => k_is)
   (case c_KeptBook_entries => k_is)
   (case k_KeptBook_entries => k_is)
   (case a_movement_of => k_is)
   (case l_movement_of => k_is)
   (case c_movement_of => k_is)
   (case k_movement_of => k_is)
   (case a_carried => k_is)
   (case l_carried => k_is)
   (case c_carried => k_is)
   (case k_carried => k_is)
   (case a_paper_holds => k_is)
   (case l_paper_holds => k_is)
   (case c_paper_holds => k_is)
   (case k_paper_holds => k_is)
   (case a__law_paper => k_is)
   (case l__law_paper => k_is)
   (case c__law_paper => k_is)
   (case k__law_paper => k_is)
   (case a__law_papers => k_is)
   (case l__law_papers => k_is)
   (case c__law_papers => k_is)
   (case k__law_papers => k_is)
   (case a__law_copies => k_is)
   (case l__law_copies => k_is)
   (case c__law_copies => k_is)
   (case k__law_copies => k_is)
   (case a__law_posted => k_is)
   (case l__law_posted => k_is)
   (case c__law_posted => k_is)
   (case k__law_posted => k_is)
   (case a__law_opened => k_is)
   (case l__law_opened => k_is)
   (case c__law_opened => k_is)
   (case k__law_opened => k_is)
   (case a__law_other => k_is)
   (case l__law_other => k_is)
   (case c__law_other => k_is)
   (case k__law_other => k_is)
   (case a__law_look => k_is)
   (case l__law_look => k_is)
   (case c__law_look => k_is)
   (case k__law_look => k_is)
   (case a__law_step => k_is)
   (case l__law_step => k_is)
   (case c__law_step => k_is)
   (case k__law_step => k_is)
   (case a__law_end => k_is)
   (case l__law_end => k_is)
   (case c__law_end => k_is)
   (case k__law_end => k_is)
   (case af_Book___init__B => k_is)
   (case l_Book___init__B => k_is)
   (case c_Book___init__B => k_is)
   (case k_Book___init__B => k_is)
   (case at_KeptBook___init__ => k_is)
   (case fn_KeptBook___init__ => k_is)
   (case l_KeptBook___init__ => k_is)
   (case c_KeptBook___init__ => k_is)
   (case k_KeptBook___init__ => k_is)
   (case a_law => k_is)
   (case l_law => k_is)
   (case c_law => k_is)
   (case k_law => k_is)
   (case xs_Closed => kernel_rfl)
   (case xs_BadPaper => kernel_rfl)
   (case q_ib => kernel_rfl)
   (case q_mC => kernel_rfl)
   (case q_mB => kernel_rfl)
   (case q_bga => kernel_rfl)
   (case q_brd => kernel_rfl)
   (case at_Book___init__B => kernel_rfl)
#print axioms PySem.Challenge.cw_groupbooks_k36_whole_closed_stay_holds
