import PyProof.Rows.All
import Wide.All
import OpenK.AllK
import Wide.FinOn
import HandS.ForMost
import HandS.MapObj
import HandS.Zip
import HandS.AnyAll
import HandS.JoinGen
import HandS.IsInst
import HandS.Style
import HandS.Walk
import HandS.Strs
import HandS.SetFor
import HandS.SortInts
import HandS.Conv
import PyProof.ToksMono
import PyProof.Draws
import PyProof.EnumMake
import HandS.Star
import HandS.ReplaceLit
import HandS.ReplaceDef
import HandS.Words
import HandS.More
import PyProof.SliceStr2
import KE.KRevSl
import PyProof.ListRange
import KE.KNest
import HandS.EndTab
import HandS.Codes
import HandS.ExcOwn
import KE.KIsAll
import HandS.ExcIs
import HandS.ExcCtx
import HandS.HotCalls
import HandS.CallLocal
import HandS.WordsExc
import HandS.Iter
import PySem.Challenge.RW_risefall_k05_refused
-- part RAcc
section
set_option Elab.async false
set_option linter.all false
set_option maxRecDepth 100000
set_option maxHeartbeats 1000000
/-! itertools.accumulate over a list of whole numbers, and list(..) of it. -/
namespace RFI
open PySem PySem.Spec PyProof.Rows
open PySem.Builtin.Itertools

/-! ### drawing from a list's iterator, as itertools does it -/
section
variable {prog : Program} {w : World} {A : Around} {E : Value → Shared → Prop} {s : Shared}
theorem itnext_item {it l : Addr} {i : Nat} {items : Array Value} {x : Value} {Q : Value → Shared → Prop} (hit : s.heap.IsListIter it l i)
    (hl : s.heap.IsList l items) (hx : items[i]? = some x) (hQ : ∀ h', h'.IsListIter it l (i + 1) → Heap.SameBut it s.heap h' → Q x { s with heap := h' }) :
    wpAny (model prog w) A (itRawNext (.ref it)) Q E s := by
  obtain ⟨o, ho, hc, hd⟩ := id hit
  obtain ⟨ol, hol, _, nl, hdl⟩ := hl
  unfold itRawNext
  refine wpAny_bind (wpAny_callSpecial?_slot (name := Str.ofString "__next__") hit.typeIs slot_listiter_next (wpAny_call_entry slot_listiter_next hit.typeIs entry_listiter_next ?_ (args_listiter_next _)))
  show wpAny _ _ (field (.ref it) 0 >>= _) _ _ s
  refine wpAny_bind (wpAny_field ho hd (x := .ref l) rfl ?_)
  show wpAny _ _ (if (Value.ref l == Value.none) = true then _ else _) _ _ s
  rw [if_neg (show ¬ ((Value.ref l == Value.none) = true) from Bool.false_ne_true)]
  show wpAny _ _ (field (.ref it) 1 >>= _) _ _ s
  refine wpAny_bind (wpAny_field ho hd (x := .int i 0) rfl ?_)
  show wpAny _ _ (seqItems? (.ref l) >>= _) _ _ s
  refine wpAny_bind (wpAny_seqItems hol hdl ?_)
  simp only [Int.toNat_natCast, hx]
  refine wpAny_bind (wpAny_setField ho hd (by simp) (wpAny_pure ⟨x, rfl, wpAny_pure (hQ _ ?_ (Heap.SameBut.update ..))⟩))
  exact ⟨_, Heap.get?_update_self _ ho (Obj.isFreed_of_fields (Obj.data_mapFields hd _)), (Obj.cls_mapFields ..).trans hc, by
    rw [Obj.data_mapFields hd]; simp [rawInt]⟩
theorem itnext_end {it l : Addr} {i : Nat} {items : Array Value} {Q : Value → Shared → Prop} (hh : A.handled = none) (hit : s.heap.IsListIter it l i) (hl : s.heap.IsList l items) (hx : items[i]? = none)
    (hE : ∀ h' e, Heap.ExtBut it s.heap h' → (∃ o, h'.get? e = some o ∧ o.cls = .type "StopIteration") → E (.ref e) { s with heap := h' }) : wpAny (model prog w) A (itRawNext (.ref it)) Q E s := by
  obtain ⟨o, ho, hc, hd⟩ := id hit
  obtain ⟨ol, hol, _, nl, hdl⟩ := hl
  unfold itRawNext
  refine wpAny_bind (wpAny_callSpecial?_slot (name := Str.ofString "__next__") hit.typeIs slot_listiter_next (wpAny_call_entry slot_listiter_next hit.typeIs entry_listiter_next ?_ (args_listiter_next _)))
  show wpAny _ _ (field (.ref it) 0 >>= _) _ _ s
  refine wpAny_bind (wpAny_field ho hd (x := .ref l) rfl ?_)
  show wpAny _ _ (if (Value.ref l == Value.none) = true then _ else _) _ _ s
  rw [if_neg (show ¬ ((Value.ref l == Value.none) = true) from Bool.false_ne_true)]
  show wpAny _ _ (field (.ref it) 1 >>= _) _ _ s
  refine wpAny_bind (wpAny_field ho hd (x := .int i 0) rfl ?_)
  show wpAny _ _ (seqItems? (.ref l) >>= _) _ _ s
  refine wpAny_bind (wpAny_seqItems hol hdl ?_)
  simp only [Int.toNat_natCast, hx]
  refine wpAny_bind (wpAny_rule (wpAny_bind (wpAny_setField ho hd (by simp) ?_)))
  show wpAny _ _ (newExc (.type "StopIteration") [] >>= _) _ _ _
  refine wpAny_bind ?_
  simp only [newExc, newTuple]
  refine wpAny_bind (wpAny_newObj_type ?_ (by size_fits))
  refine wpAny_bind (m := firstArgMember _ _) (wpAny_of_eq (a := Value.none) (by first | rfl | (simp only [firstArgMember]; rfl)) ?_)
  refine wpAny_newObj_type ?_ (by size_fits)
  simp only [raiseNew]
  refine wpAny_bind (wpAny_handled ?_)
  first | rw [show A.in1.handled = none from hh] | rw [hh]
  refine wpAny_bind (wpAny_pure (wpAny_throw ?_))
  exact hE _ _ (((Heap.SameBut.update ..).extBut.push _).push _) ⟨_, Heap.get?_push_size _ rfl, rfl⟩
end

/-! ### facts of the type -/
theorem owner_acc : Manifest.owners.lookup (String.ofList ['e', 't', 'a', 'l', 'u', 'm', 'u', 'c', 'c', 'a', '.', 's', 'l', 'o', 'o', 't', 'r', 'e', 't', 'i'].reverse) = some Manifest.sig_itertools_accumulate := by kernel_rfl
theorem sub_acc : isSubtype (.type "itertools.accumulate") (.type "itertools.accumulate") = pure true := by rw [isSubtype_type]; kernel_rfl
theorem mro_acc : mroOf (.type "itertools.accumulate") = pure [.type "itertools.accumulate", .type "object"] := by rw [mroOf_type]; kernel_rfl
theorem lookup_acc_new : typeLookup (.type "itertools.accumulate") "__new__" = pure (some (.builtin "itertools.accumulate.__new__")) := by rw [typeLookup_type, builtinLookup_eq_fast]; kernel_rfl
theorem slot_acc_init : Slot "itertools.accumulate" "__init__" "object.__init__" :=
  .of (owner := "object") (n := "__init__") (by rw [typeLookup_type, builtinLookup_eq_fast]; kernel_rfl) (by decide +kernel) (by decide +kernel) (by decide +kernel)
    (by first | exact .inl (by decide +kernel) | exact .inr (by decide +kernel)) (by rw [isSubtype_type]; kernel_rfl)
theorem called_acc : TypeCalled "itertools.accumulate" "itertools.accumulate.__new__" "object.__init__" :=
  ⟨by decide +kernel, by decide +kernel, ⟨_, _, mro_acc⟩, madeBy_type mro_acc lookup_acc_new (by decide +kernel), by decide +kernel, sub_acc, slot_acc_init⟩
theorem typeCall_acc (a : Value) : checkTypeCall "itertools.accumulate" ⟨[a], []⟩ = pure () := by kernel_rfl
theorem newCall_acc (a : Value) : checkBuiltinCall "itertools.accumulate.__new__" ⟨[.type "itertools.accumulate", a], []⟩ = pure () := by kernel_rfl
theorem entry_acc_new : entryFor table "itertools.accumulate.__new__" = some Builtin.«itertools.accumulate.__new__» := entryFor_of_tree (by kernel_rfl)
theorem slot_acc_iter : Slot "itertools.accumulate" "__iter__" "itertools.accumulate.__iter__" :=
  .of (owner := "itertools.accumulate") (n := "__iter__") (by rw [typeLookup_type, builtinLookup_eq_fast]; kernel_rfl) (by decide +kernel) (by decide +kernel) (by decide +kernel)
    (by first | exact .inl (by decide +kernel) | exact .inr (by decide +kernel)) sub_acc
theorem slot_acc_next : Slot "itertools.accumulate" "__next__" "itertools.accumulate.__next__" :=
  .of (owner := "itertools.accumulate") (n := "__next__") (by rw [typeLookup_type, builtinLookup_eq_fast]; kernel_rfl) (by decide +kernel) (by decide +kernel) (by decide +kernel)
    (by first | exact .inl (by decide +kernel) | exact .inr (by decide +kernel)) sub_acc
theorem entry_acc_iter : entryFor table "itertools.accumulate.__iter__" = some Builtin.«dict_keyiterator.__iter__» :=
  entryFor_alias (id' := "dict_keyiterator.__iter__") (by kernel_rfl) (by first | rfl | decide +kernel | (unfold String.splitOn; simp +decide [String.splitOnAux])) (by decide +kernel) (by kernel_rfl)
theorem entry_acc_next : entryFor table "itertools.accumulate.__next__" = some Builtin.«itertools.accumulate.__next__» := entryFor_of_tree (by kernel_rfl)
theorem args_acc_iter (a : Value) : argsOk "itertools.accumulate.__iter__" ⟨[a], []⟩ := by
  unfold argsOk; rw [signature?_of (id := "itertools.accumulate.__iter__") (n := ['_', '_', 'r', 'e', 't', 'i', '_', '_']) (o := ['e', 't', 'a', 'l', 'u', 'm', 'u', 'c', 'c', 'a', '.', 's', 'l', 'o', 'o', 't', 'r', 'e', 't', 'i']) (by kernel_rfl) owner_acc]; kernel_rfl
theorem args_acc_next (a : Value) : argsOk "itertools.accumulate.__next__" ⟨[a], []⟩ := by
  unfold argsOk; rw [signature?_of (id := "itertools.accumulate.__next__") (n := ['_', '_', 't', 'x', 'e', 'n', '_', '_']) (o := ['e', 't', 'a', 'l', 'u', 'm', 'u', 'c', 'c', 'a', '.', 's', 'l', 'o', 'o', 't', 'r', 'e', 't', 'i']) (by kernel_rfl) owner_acc]; kernel_rfl
theorem noDict_acc : typeHasDict (.type "itertools.accumulate") = false := by decide +kernel
theorem nolen_acc : typeLookup (.type "itertools.accumulate") "__len__" = pure none := by rw [typeLookup_type, builtinLookup_eq_fast]; kernel_rfl
theorem nohint_acc : typeLookup (.type "itertools.accumulate") "__length_hint__" = pure none := by rw [typeLookup_type, builtinLookup_eq_fast]; kernel_rfl

/-- the object: what it draws from, the sum so far -/
abbrev IsAcc (h : Heap) (m it : Addr) (tot : Value) : Prop := h.get? m = some { cls := .type "itertools.accumulate", dict := none, data := .fields #[.ref it, .none, tot, .none], slots := #[] }

section
variable {prog : Program} {w : World} {A : Around} {E : Value → Shared → Prop} {s : Shared}
theorem new_acc (x : Value) : MeetsIn prog w (Builtin.«itertools.accumulate.__new__» ⟨[.type "itertools.accumulate", x], []⟩)
    (fun A R s => wpAny (model prog w) A.in1 (pyIter x) (fun itv s1 => R (.ok (.ret (.ref s1.heap.objs.size))) { s1 with heap := s1.heap.push { cls := .type "itertools.accumulate", data := .fields #[itv, .none, .int 0 0, .none] } }) (fun e s1 => R (.error e) s1) s) :=
  .of_wp fun A R s h => by
    unfold Builtin.«itertools.accumulate.__new__»
    refine wpAny_bind (wpAny_of_eq (a := (.type "itertools.accumulate", [x])) ?_ ?_)
    · unfold itClassAndRest
      rw [show ("itertools." ++ "accumulate" : String) = "itertools.accumulate" by decide +kernel]
      simp only [isType, sub_acc, pure_bind, Bool.not_true, Bool.false_eq_true, if_false]
    try dsimp only
    refine wpAny_bind (wpAny_of_eq (a := [some x, none, none]) ?_ ?_)
    · first | rfl | kernel_rfl
    try dsimp only
    refine wpAny_bind (wpAny_mono h (fun itv s1 hR => ?_) fun _ _ z => z)
    unfold itNewRecord
    rw [noDict_acc]
    simp only [Bool.not_false, if_true]
    refine wpAny_bind ?_
    refine wpAny_newObj_type ?_
    exact wpAny_pure ⟨_, rfl, hR⟩
/-- accumulate(x): two things are made, the iterator of x and the object -/
theorem call_acc {x : Value} {Q : Value → Shared → Prop}
    (hx : wpAny (model prog w) A.in1.in1 (pyIter x) (fun itv s1 => ∀ h', h'.get? s1.heap.objs.size = some { cls := .type "itertools.accumulate", dict := none, data := .fields #[itv, .none, .int 0 0, .none], slots := #[] } →
      h'.objs.size = s1.heap.objs.size + 1 → (∀ c o, s1.heap.get? c = some o → h'.get? c = some o) → Q (.ref s1.heap.objs.size) { s1 with heap := h' }) E s) :
    wpAny (model prog w) A (call (.type "itertools.accumulate") [x]) Q E s := by
  refine callType_newIn called_acc (by decide +kernel) (typeCall_acc _) (newCall_acc _) (fun obj => F.args_object_init_2 obj _) entry_acc_new (new_acc x) ?_
  show wpAny (model prog w) A.in1.in1 (pyIter x) _ _ _
  refine wpAny_mono hx (fun itv s1 h => ?_) fun _ _ z => z
  have gm : (s1.heap.push { cls := .type "itertools.accumulate", data := .fields #[itv, .none, .int 0 0, .none] }).get? s1.heap.objs.size = some { cls := .type "itertools.accumulate", dict := none, data := .fields #[itv, .none, .int 0 0, .none], slots := #[] } := Heap.get?_push_size _ rfl
  have hq := h _ gm (Heap.size_push ..) fun c o e => Heap.get?_push_of_some _ e
  show _ ∧ _
  exact ⟨⟨_, gm, rfl⟩, hq⟩

theorem tok_ne {i : Int} {t : Nat} (h : 1 ≤ t) : (Value.int i t == itNothing) = false := by
  cases e : Value.int i t == itNothing with
  | false => rfl
  | true =>
    have z : Value.int i t = Value.int 0 0 := beq_iff_eq.mp e
    injection z with _ z2
    have z3 : t = 0 := z2
    omega
theorem acc_next_item {m it l : Addr} {i : Nat} {items : Array Value} {a x : Int} {t tx : Tok} {Q : Value → Shared → Prop} (hm : IsAcc s.heap m it (.int a t)) (hit : s.heap.IsListIter it l i)
    (hl : s.heap.IsList l items) (hx : items[i]? = some (.int x tx)) (hmi : m ≠ it) (hml : m ≠ l) (hli : l ≠ it)
    (hQ : ∀ s' t', IsAcc s'.heap m it (.int (a + x) t') → s'.heap.IsListIter it l (i + 1) → s'.heap.IsList l items → (∀ b o, b ≠ it → b ≠ m → s.heap.get? b = some o → s'.heap.get? b = some o) →
      s'.gens = s.gens → s'.drawn = s.drawn → s'.os = s.os → (1 ≤ s.toks → (Value.int x tx == itNothing) = false → (Value.int (a + x) t' == itNothing) = false) → Q (.int (a + x) t') s') :
    wpAny (model prog w) A (Builtin.«itertools.accumulate.__next__» ⟨[.ref m], []⟩) (fun fin s' => ∃ v, fin = .done (.ret v) ∧ Q v s') E s := by
  show wpAny _ _ (field (.ref m) 3 >>= _) _ _ _
  refine wpAny_bind (wpAny_field hm rfl (x := .none) rfl ?_)
  show wpAny _ _ (if (Value.none != Value.none) = true then _ else _) _ _ s
  rw [if_neg (show ¬ ((Value.none != Value.none) = true) by decide)]
  show wpAny _ _ (field (.ref m) 0 >>= _) _ _ _
  refine wpAny_bind (wpAny_field hm rfl (x := .ref it) rfl ?_)
  refine wpAny_bind (itnext_item hit hl hx fun h1 hit1 hs1 => ?_)
  have hm1 : IsAcc h1 m it (.int a t) := hs1.extBut _ _ hmi hm
  have hl1 : h1.IsList l items := hl.extBut hs1.extBut hli
  show wpAny _ _ (field (.ref m) 2 >>= _) _ _ _
  refine wpAny_bind (wpAny_field hm1 rfl (x := .int a t) rfl ?_)
  show wpAny _ _ (if (Value.int a t == itNothing) = true then _ else _) _ _ _
  by_cases hc : (Value.int a t == itNothing) = true
  · rw [if_pos hc]
    have e0 : Value.int a t = Value.int 0 0 := beq_iff_eq.mp hc
    have ea : a = 0 := by injection e0
    subst ea
    rw [Int.zero_add] at hQ
    refine wpAny_bind (wpAny_rule ?_)
    refine wpAny_bind (wpAny_setField_rec hm1 (by simp) fun h2 hm2 hs2 => ?_)
    replace hm2 : IsAcc h2 m it (.int x tx) := hm2
    exact wpAny_pure ⟨_, rfl, hQ _ tx hm2 (hit1.at fun o e => hs2.extBut _ _ hmi.symm e) (hl1.extBut hs2.extBut (Ne.symm hml)) (fun b o b1 b2 e => hs2.extBut _ _ b2 (hs1.extBut _ _ b1 e)) rfl rfl rfl fun _ hx => hx⟩
  · rw [if_neg hc]
    show wpAny _ _ (field (.ref m) 1 >>= _) _ _ _
    refine wpAny_bind (wpAny_field hm1 rfl (x := .none) rfl ?_)
    show wpAny _ _ (holding _ (if (Value.none == Value.none) = true then _ else _) >>= _) _ _ _
    rw [if_pos (show (Value.none == Value.none) = true by decide)]
    refine wpAny_bind (wpAny_holding (add_int ?_))
    refine wpAny_bind (wpAny_setField_rec hm1 (by simp) fun h2 hm2 hs2 => ?_)
    replace hm2 : IsAcc h2 m it (.int (a + x) _) := hm2
    refine wpAny_bind (wpAny_letGo ?_)
    exact wpAny_pure ⟨_, rfl, hQ _ _ hm2 (hit1.at fun o e => hs2.extBut _ _ hmi.symm e) (hl1.extBut hs2.extBut (Ne.symm hml)) (fun b o b1 b2 e => hs2.extBut _ _ b2 (hs1.extBut _ _ b1 e)) rfl rfl rfl fun z _ => tok_ne z⟩
theorem acc_next_end {m it l : Addr} {i : Nat} {items : Array Value} {a : Value} {Q : Fin → Shared → Prop} (hh : A.handled = none) (hm : IsAcc s.heap m it a) (hit : s.heap.IsListIter it l i)
    (hl : s.heap.IsList l items) (hx : items[i]? = none)
    (hE : ∀ h' e, Heap.ExtBut it s.heap h' → (∃ o, h'.get? e = some o ∧ o.cls = .type "StopIteration") → E (.ref e) { s with heap := h' }) :
    wpAny (model prog w) A (Builtin.«itertools.accumulate.__next__» ⟨[.ref m], []⟩) Q E s := by
  show wpAny _ _ (field (.ref m) 3 >>= _) _ _ _
  refine wpAny_bind (wpAny_field hm rfl (x := .none) rfl ?_)
  show wpAny _ _ (if (Value.none != Value.none) = true then _ else _) _ _ s
  rw [if_neg (show ¬ ((Value.none != Value.none) = true) by decide)]
  show wpAny _ _ (field (.ref m) 0 >>= _) _ _ _
  refine wpAny_bind (wpAny_field hm rfl (x := .ref it) rfl ?_)
  exact wpAny_bind (itnext_end hh hit hl hx hE)
theorem acc_pyIter {m it : Addr} {a : Value} {Q : Value → Shared → Prop} (hm : IsAcc s.heap m it a) (h : Q (.ref m) s) : wpAny (model prog w) A (pyIter (.ref m)) Q E s := by
  have hT : s.TypeIs (.ref m) "itertools.accumulate" := ⟨_, hm, rfl⟩
  refine wpAny_pyIter_slot hT slot_acc_iter (wpAny_call_entry slot_acc_iter hT entry_acc_iter ?_ (args_acc_iter _))
  show wpAny _ _ (ret (.ref m)) _ _ s
  exact wpAny_pure ⟨_, rfl, "itertools.accumulate", _, hT, slot_acc_next.lookup, h⟩
end

/-- the object is walked: the sums of the first ones -/
theorem walks_acc {prog : Program} {w : World} {A : Around} {m it l : Addr} {items : Array Value} (ok : Prop) (hok : ok → ∀ (i : Nat) (v : Value), items[i]? = some v → (v == itNothing) = false) (ns : List Int) (hi : ∀ (i : Nat) (v : Value), items[i]? = some v → ∃ x t, ns[i]? = some x ∧ v = .int x t) (hh : A.handled = none) (hmi : m ≠ it) (hml : m ≠ l) (hli : l ≠ it) :
    WalksS prog w A m [m, it, l] [m, it] (fun a b => b = a) items.size (fun i v => (∃ t, v = .int (ns.take (i + 1)).sum t) ∧ (ok → (v == itNothing) = false))
      (fun i s => (∃ t, IsAcc s.heap m it (.int (ns.take i).sum t)) ∧ (s.heap.IsListIter it l i ∧ s.heap.IsList l items) ∧ (ok → 1 ≤ s.toks)) where
  sub := fun b hb => by
    rcases List.mem_cons.mp hb with rfl | hb
    · simp
    · rw [List.mem_singleton.mp hb]; simp
  grefl := fun _ => rfl
  gtrans := fun _ _ _ h1 h2 => h2.trans h1
  frame := fun i s h' tk st ht hk => ⟨let ⟨t, e⟩ := st.1; ⟨t, hk m (by simp) _ e⟩, ⟨st.2.1.1.at fun o e => hk it (by simp) o e, st.2.1.2.at fun o e => hk l (by simp) o e⟩, fun z => Nat.le_trans (st.2.2 z) ht⟩
  item := fun i s Q E hlt st hQ => by
    obtain ⟨⟨t, hm⟩, ⟨hit, hl⟩, htk0⟩ := st
    have hx0 : items[i]? = some items[i] := by simp [hlt]
    obtain ⟨x, tx, hnx, hv⟩ := hi i _ hx0
    have hcl : ok → (Value.int x tx == itNothing) = false := fun z => by rw [← hv]; exact hok z i _ hx0
    rw [hv] at hx0
    have es : (ns.take (i + 1)).sum = (ns.take i).sum + x := by rw [List.take_add_one, hnx, List.sum_append]; simp
    have hT0 : s.TypeIs (.ref m) "itertools.accumulate" := ⟨_, hm, rfl⟩
    unfold pyNext
    refine wpAny_with_toks (Nat.le_refl s.toks) (wpAny_bind (wpAny_attempt (wpAny_callSpecial?_slot (name := Str.ofString "__next__") hT0 slot_acc_next
      (wpAny_call_entry slot_acc_next hT0 entry_acc_next (acc_next_item hm hit hl hx0 hmi hml hli fun s' t' a1 a2 a3 hk g1 g2 g3 g4 => wpAny_pure fun htk => ?_) (args_acc_next _)))))
    rw [← es] at a1 g4 ⊢
    exact hQ _ s' ⟨⟨t', rfl⟩, fun z => g4 (htk0 z) (hcl z)⟩ ⟨⟨t', a1⟩, ⟨a2, a3⟩, fun z => Nat.le_trans (htk0 z) htk⟩ ⟨fun b ob hb e => hk b ob (fun h => hb (by simp [h])) (fun h => hb (by simp [h])) e, g1, g2, g3, htk⟩
  done := fun s Q E st hQ => by
    obtain ⟨⟨t, hm⟩, ⟨hit, hl⟩, _⟩ := st
    have hT0 : s.TypeIs (.ref m) "itertools.accumulate" := ⟨_, hm, rfl⟩
    unfold pyNext
    refine wpAny_bind (wpAny_attempt (wpAny_callSpecial?_slot (name := Str.ofString "__next__") hT0 slot_acc_next
      (wpAny_call_entry slot_acc_next hT0 entry_acc_next (acc_next_end hh hm hit hl (by simp) fun h' e hk he => ?_) (args_acc_next _))))
    obtain ⟨o, ho, hc⟩ := he
    refine wpAny_bind (wpAny_isInstance (T := "StopIteration") (b := true) ⟨o, ho, hc⟩ isSubtype_stop ?_)
    exact wpAny_pure (hQ _ ⟨fun b ob hb e => hk b ob (fun h => hb (by simp [h])) e, rfl, rfl, rfl, Nat.le_refl _⟩)
  self := fun i s Q E st hQ => let ⟨t, hm⟩ := st.1; acc_pyIter hm hQ
end RFI
end
-- part RPw
section
set_option Elab.async false
set_option linter.all false
set_option maxRecDepth 100000
set_option maxHeartbeats 1000000
/-! itertools.pairwise over a list, in a for with two names. -/
namespace RFI
open PySem PySem.Spec PyProof.Rows
open PySem.Builtin.Itertools

theorem owner_pw : Manifest.owners.lookup (String.ofList ['e', 's', 'i', 'w', 'r', 'i', 'a', 'p', '.', 's', 'l', 'o', 'o', 't', 'r', 'e', 't', 'i'].reverse) = some Manifest.sig_itertools_pairwise := by kernel_rfl
theorem sub_pw : isSubtype (.type "itertools.pairwise") (.type "itertools.pairwise") = pure true := by rw [isSubtype_type]; kernel_rfl
theorem mro_pw : mroOf (.type "itertools.pairwise") = pure [.type "itertools.pairwise", .type "object"] := by rw [mroOf_type]; kernel_rfl
theorem lookup_pw_new : typeLookup (.type "itertools.pairwise") "__new__" = pure (some (.builtin "itertools.pairwise.__new__")) := by rw [typeLookup_type, builtinLookup_eq_fast]; kernel_rfl
theorem slot_pw_init : Slot "itertools.pairwise" "__init__" "object.__init__" :=
  .of (owner := "object") (n := "__init__") (by rw [typeLookup_type, builtinLookup_eq_fast]; kernel_rfl) (by decide +kernel) (by decide +kernel) (by decide +kernel)
    (by first | exact .inl (by decide +kernel) | exact .inr (by decide +kernel)) (by rw [isSubtype_type]; kernel_rfl)
theorem called_pw : TypeCalled "itertools.pairwise" "itertools.pairwise.__new__" "object.__init__" :=
  ⟨by decide +kernel, by decide +kernel, ⟨_, _, mro_pw⟩, madeBy_type mro_pw lookup_pw_new (by decide +kernel), by decide +kernel, sub_pw, slot_pw_init⟩
theorem typeCall_pw (a : Value) : checkTypeCall "itertools.pairwise" ⟨[a], []⟩ = pure () := by kernel_rfl
theorem newCall_pw (a : Value) : checkBuiltinCall "itertools.pairwise.__new__" ⟨[.type "itertools.pairwise", a], []⟩ = pure () := by kernel_rfl
theorem entry_pw_new : entryFor table "itertools.pairwise.__new__" = some Builtin.«itertools.pairwise.__new__» := entryFor_of_tree (by kernel_rfl)
theorem slot_pw_iter : Slot "itertools.pairwise" "__iter__" "itertools.pairwise.__iter__" :=
  .of (owner := "itertools.pairwise") (n := "__iter__") (by rw [typeLookup_type, builtinLookup_eq_fast]; kernel_rfl) (by decide +kernel) (by decide +kernel) (by decide +kernel)
    (by first | exact .inl (by decide +kernel) | exact .inr (by decide +kernel)) sub_pw
theorem slot_pw_next : Slot "itertools.pairwise" "__next__" "itertools.pairwise.__next__" :=
  .of (owner := "itertools.pairwise") (n := "__next__") (by rw [typeLookup_type, builtinLookup_eq_fast]; kernel_rfl) (by decide +kernel) (by decide +kernel) (by decide +kernel)
    (by first | exact .inl (by decide +kernel) | exact .inr (by decide +kernel)) sub_pw
theorem entry_pw_iter : entryFor table "itertools.pairwise.__iter__" = some Builtin.«dict_keyiterator.__iter__» :=
  entryFor_alias (id' := "dict_keyiterator.__iter__") (by kernel_rfl) (by first | rfl | decide +kernel | (unfold String.splitOn; simp +decide [String.splitOnAux])) (by decide +kernel) (by kernel_rfl)
theorem entry_pw_next : entryFor table "itertools.pairwise.__next__" = some Builtin.«itertools.pairwise.__next__» := entryFor_of_tree (by kernel_rfl)
theorem args_pw_iter (a : Value) : argsOk "itertools.pairwise.__iter__" ⟨[a], []⟩ := by
  unfold argsOk; rw [signature?_of (id := "itertools.pairwise.__iter__") (n := ['_', '_', 'r', 'e', 't', 'i', '_', '_']) (o := ['e', 's', 'i', 'w', 'r', 'i', 'a', 'p', '.', 's', 'l', 'o', 'o', 't', 'r', 'e', 't', 'i']) (by kernel_rfl) owner_pw]; kernel_rfl
theorem args_pw_next (a : Value) : argsOk "itertools.pairwise.__next__" ⟨[a], []⟩ := by
  unfold argsOk; rw [signature?_of (id := "itertools.pairwise.__next__") (n := ['_', '_', 't', 'x', 'e', 'n', '_', '_']) (o := ['e', 's', 'i', 'w', 'r', 'i', 'a', 'p', '.', 's', 'l', 'o', 'o', 't', 'r', 'e', 't', 'i']) (by kernel_rfl) owner_pw]; kernel_rfl
theorem noDict_pw : typeHasDict (.type "itertools.pairwise") = false := by decide +kernel

/-- the object: the pair it handed out, what it draws from, the one ahead, its own pair -/
abbrev IsPw (h : Heap) (z it TO : Addr) (f0 old : Value) : Prop := h.get? z = some { cls := .type "itertools.pairwise", dict := none, data := .fields #[f0, .bool false, .ref it, old, .ref TO], slots := #[] }
structure PwApart (z TO it l : Addr) : Prop where
  TOz : TO ≠ z
  itz : it ≠ z
  lz : l ≠ z
  TOit : TO ≠ it
  lTO : l ≠ TO
  lit : l ≠ it

section
variable {prog : Program} {w : World} {A : Around} {E : Value → Shared → Prop} {s : Shared}
abbrev pw1 (h : Heap) (l : Addr) : Heap := h.push { cls := .type "list_iterator", data := .fields #[.ref l, .int 0 0] }
abbrev pw2 (h : Heap) (l : Addr) : Heap := (pw1 h l).push { cls := .type "tuple", data := .seq #[.none, .none] }
abbrev pw3 (h : Heap) (l : Addr) : Heap := (pw2 h l).push { cls := .type "itertools.pairwise", data := .fields #[.none, .bool false, .ref h.objs.size, .int 0 0, .ref (pw1 h l).objs.size] }
theorem new_pw (l : Addr) (xs : Array Value) : Meets (Builtin.«itertools.pairwise.__new__» ⟨[.type "itertools.pairwise", .ref l], []⟩)
    (fun _ R s => s.heap.IsList l xs ∧ R (.ok (.ret (.ref (pw2 s.heap l).objs.size))) { s with heap := pw3 s.heap l }) :=
  .of_wp fun prog w A R s h => by
    obtain ⟨hl, h⟩ := h
    unfold Builtin.«itertools.pairwise.__new__»
    refine wpAny_bind (wpAny_of_eq (a := (.type "itertools.pairwise", [.ref l])) ?_ ?_)
    · unfold itPositionalOnly itClassAndRest
      rw [show ("itertools." ++ "pairwise" : String) = "itertools.pairwise" by decide +kernel]
      simp only [isType, sub_pw, pure_bind, Bool.not_true, Bool.false_eq_true, if_false]
      first | rfl | kernel_rfl
    try dsimp only
    refine wpAny_bind (wpAny_pyIter_list hl ?_)
    refine wpAny_bind (wpAny_holding (wpAny_newTuple ?_))
    unfold itNewRecord
    rw [noDict_pw]
    simp only [Bool.not_false, if_true]
    refine wpAny_bind ?_
    show wpAny _ _ (newObj (.type "itertools.pairwise") (.fields #[.none, .bool false, .ref s.heap.objs.size, .int 0 0, .ref (pw1 s.heap l).objs.size])) _ _ _
    refine wpAny_newObj_type ?_
    exact wpAny_pure ⟨_, rfl, h⟩
theorem call_pw {l : Addr} {xs : Array Value} {Q : Value → Shared → Prop} (hl : s.heap.IsList l xs)
    (h : ∀ h', IsPw h' (s.heap.objs.size + 2) s.heap.objs.size (s.heap.objs.size + 1) .none (.int 0 0) → IsPair h' (s.heap.objs.size + 1) .none .none → h'.IsListIter s.heap.objs.size l 0 → h'.objs.size = s.heap.objs.size + 3 →
      (∀ c o, s.heap.get? c = some o → h'.get? c = some o) → Q (.ref (s.heap.objs.size + 2)) { s with heap := h' }) :
    wpAny (model prog w) A (call (.type "itertools.pairwise") [.ref l]) Q E s := by
  refine callType_new called_pw (by decide +kernel) (typeCall_pw _) (newCall_pw _) (fun obj => F.args_object_init_2 obj _) entry_pw_new (new_pw l xs) ⟨hl, ?_⟩
  have z1 : (pw1 s.heap l).objs.size = s.heap.objs.size + 1 := Heap.size_push ..
  have z2 : (pw2 s.heap l).objs.size = s.heap.objs.size + 2 := by rw [Heap.size_push, z1]
  have z3 : (pw3 s.heap l).objs.size = s.heap.objs.size + 3 := by rw [Heap.size_push, z2]
  have g3 : (pw3 s.heap l).get? (pw2 s.heap l).objs.size = some _ := Heap.get?_push_size _ rfl
  have g2 : (pw3 s.heap l).get? (pw1 s.heap l).objs.size = some _ := Heap.get?_push_of_some _ (Heap.get?_push_size _ rfl)
  have g1 : (pw3 s.heap l).get? s.heap.objs.size = some _ := Heap.get?_push_of_some _ (Heap.get?_push_of_some _ (Heap.get?_push_size _ rfl))
  show _ ∧ _
  rw [z2, z1] at g3
  rw [z1] at g2
  rw [z2]
  exact ⟨⟨_, g3, rfl⟩, h _ g3 g2 ⟨_, g1, rfl, rfl⟩ z3 fun c o x => Heap.get?_push_of_some _ (Heap.get?_push_of_some _ (Heap.get?_push_of_some _ x))⟩

/-- what is the same in every turn, behind the one ahead -/
theorem pw_rest_item {z it TO l : Addr} {k : Nat} {xs : Array Value} {x y a b : Value} {Q : Fin → Shared → Prop} (D : PwApart z TO it l)
    (hz : IsPw s.heap z it TO .none x) (hTO : IsPair s.heap TO a b) (h1 : s.heap.IsListIter it l k) (hl : s.heap.IsList l xs) (hy : xs[k]? = some y) {ended : Value → Sem Unit}
    (hQ : ∀ h', IsPw h' z it TO (rawInt s.heap.objs.size) y → IsPair h' TO x y → h'.IsListIter it l (k + 1) → IsPair h' s.heap.objs.size x y → h'.objs.size = s.heap.objs.size + 1 →
      (∀ c o, c ≠ z → c ≠ TO → c ≠ it → s.heap.get? c = some o → h'.get? c = some o) → Q (.done (.ret (.ref s.heap.objs.size))) { s with heap := h' }) :
    wpAny (model prog w) A (do
      let old ← field (.ref z) 3
      let new ← holding [old] (tryCatch (itRawNext (.ref it)) fun e => do ended e; throw e)
      let result ← holding [old, new] (newTuple [old, new])
      if ← itOwnedIsFree (.ref z) then
        rule "itertools.pairwise.owned-tuple-again"
        let .ref kept ← field (.ref z) 4 | unsupported "internal:itertools.pairwise"
        let was ← itPoolItems (.ref kept)
        updateSeq kept fun _ => #[old, new]
        itOwnedHandOut (.ref z) result
        setField (.ref z) 3 new
        letGo was.toList [result]
      else setField (.ref z) 3 new
      ret result) Q E s := by
  refine wpAny_bind (wpAny_field hz rfl (x := x) rfl ?_)
  refine wpAny_bind (wpAny_holding (wpAny_tryCatch (itnext_item h1 hl hy fun h₁ h1₁ hs₁ => ?_)))
  refine wpAny_bind (wpAny_holding (wpAny_newTuple ?_))
  have hsz₁ : h₁.objs.size = s.heap.objs.size := hs₁.1
  have hzlt : z < s.heap.objs.size := Heap.lt_size hz
  have hz₂ : IsPw (h₁.push { cls := .type "tuple", data := .seq #[x, y] }) z it TO .none x := Heap.get?_push_of_some _ (hs₁.extBut _ _ D.itz.symm hz)
  have hTO₂ : IsPair (h₁.push { cls := .type "tuple", data := .seq #[x, y] }) TO a b := Heap.get?_push_of_some _ (hs₁.extBut _ _ D.TOit hTO)
  have h1₂ : (h₁.push { cls := .type "tuple", data := .seq #[x, y] }).IsListIter it l (k + 1) := h1₁.at fun o e => Heap.get?_push_of_some _ e
  have hT₂ : IsPair (h₁.push { cls := .type "tuple", data := .seq #[x, y] }) s.heap.objs.size x y := by rw [← hsz₁]; exact Heap.get?_push_size _ rfl
  have hk₂ : ∀ c o, c ≠ it → s.heap.get? c = some o → (h₁.push { cls := .type "tuple", data := .seq #[x, y] }).get? c = some o := fun c o hc e => Heap.get?_push_of_some _ (hs₁.extBut _ _ hc e)
  have hs₂ : (h₁.push { cls := .type "tuple", data := .seq #[x, y] }).objs.size = s.heap.objs.size + 1 := by rw [Heap.size_push, hsz₁]
  rw [hsz₁]
  generalize h₁.push { cls := .type "tuple", data := .seq #[x, y] } = h₂ at hz₂ hTO₂ h1₂ hT₂ hk₂ hs₂ ⊢
  refine wpAny_bind ?_
  unfold itOwnedIsFree
  refine wpAny_bind (wpAny_field hz₂ rfl (x := .none) rfl (wpAny_pure ?_))
  simp only [if_true]
  refine wpAny_bind (wpAny_rule ?_)
  refine wpAny_bind (wpAny_field hz₂ rfl (x := .ref TO) rfl ?_)
  unfold itPoolItems
  refine wpAny_bind (wpAny_bind (wpAny_seqItems hTO₂ rfl (wpAny_pure ?_)))
  refine wpAny_bind (wpAny_updateSeq hTO₂ rfl ?_)
  have hTO₃ := Heap.get?_update_self (Obj.mapSeq fun _ => #[x, y]) hTO₂ rfl
  have sb₃ : Heap.SameBut TO h₂ (h₂.update TO (Obj.mapSeq fun _ => #[x, y])) := Heap.SameBut.update ..
  have hTO₃' : IsPair (h₂.update TO (Obj.mapSeq fun _ => #[x, y])) TO x y := hTO₃
  have hz₃ : IsPw (h₂.update TO (Obj.mapSeq fun _ => #[x, y])) z it TO .none x := sb₃.extBut _ _ D.TOz.symm hz₂
  generalize h₂.update TO (Obj.mapSeq fun _ => #[x, y]) = h₃ at sb₃ hTO₃' hz₃ ⊢
  unfold itOwnedHandOut
  refine wpAny_bind (wpAny_bind (wpAny_setField_rec hz₃ (by simp) fun h₄ hz₄ hs₄ => ?_))
  replace hz₄ : IsPw h₄ z it TO (rawInt s.heap.objs.size) x := hz₄
  refine wpAny_setField_rec hz₄ (by simp) fun h₅ hz₅ hs₅ => ?_
  replace hz₅ : IsPw h₅ z it TO (rawInt s.heap.objs.size) x := hz₅
  refine wpAny_bind (wpAny_setField_rec hz₅ (by simp) fun h₆ hz₆ hs₆ => ?_)
  replace hz₆ : IsPw h₆ z it TO (rawInt s.heap.objs.size) y := hz₆
  refine wpAny_bind (wpAny_letGo ?_)
  have up : ∀ c o, c ≠ z → h₃.get? c = some o → h₆.get? c = some o := fun c o hc e => hs₆.extBut _ _ hc (hs₅.extBut _ _ hc (hs₄.extBut _ _ hc e))
  have kp : ∀ c o, c ≠ z → c ≠ TO → h₂.get? c = some o → h₆.get? c = some o := fun c o c1 c2 e => up c o c1 (sb₃.extBut _ _ c2 e)
  have hTlt : TO < s.heap.objs.size := Heap.lt_size hTO
  refine wpAny_pure (hQ h₆ hz₆ (up _ _ D.TOz hTO₃') (h1₂.at fun o e => kp _ o D.itz D.TOit.symm e) (kp _ _ (Nat.ne_of_gt hzlt) (Nat.ne_of_gt hTlt) hT₂) ?_ fun c o c1 c2 c3 e => kp c o c1 c2 (hk₂ c o c3 e))
  rw [hs₆.1, hs₅.1, hs₄.1, sb₃.1, hs₂]
theorem pw_next_more {z it TO l : Addr} {k : Nat} {xs : Array Value} {x y a b : Value} {Q : Fin → Shared → Prop} (D : PwApart z TO it l)
    (hz : IsPw s.heap z it TO .none x) (hTO : IsPair s.heap TO a b) (h1 : s.heap.IsListIter it l k) (hl : s.heap.IsList l xs) (hx : (x == itNothing) = false) (hy : xs[k]? = some y)
    (hQ : ∀ h', IsPw h' z it TO (rawInt s.heap.objs.size) y → IsPair h' TO x y → h'.IsListIter it l (k + 1) → IsPair h' s.heap.objs.size x y → h'.objs.size = s.heap.objs.size + 1 →
      (∀ c o, c ≠ z → c ≠ TO → c ≠ it → s.heap.get? c = some o → h'.get? c = some o) → Q (.done (.ret (.ref s.heap.objs.size))) { s with heap := h' }) :
    wpAny (model prog w) A (Builtin.«itertools.pairwise.__next__» ⟨[.ref z], []⟩) Q E s := by
  show wpAny _ _ (field (.ref z) 2 >>= _) _ _ _
  refine wpAny_bind (wpAny_field hz rfl (x := .ref it) rfl ?_)
  show wpAny _ _ (if (Value.ref it == Value.none) = true then _ else _) _ _ s
  rw [if_neg (show ¬ ((Value.ref it == Value.none) = true) from Bool.false_ne_true)]
  show wpAny _ _ (field (.ref z) 3 >>= _) _ _ _
  refine wpAny_bind (wpAny_field hz rfl (x := x) rfl ?_)
  show wpAny _ _ (if (x == itNothing) = true then _ else _) _ _ s
  rw [if_neg (by rw [hx]; decide)]
  exact pw_rest_item D hz hTO h1 hl hy hQ
theorem pw_next_first {z it TO l : Addr} {xs : Array Value} {x y a b : Value} {Q : Fin → Shared → Prop} (D : PwApart z TO it l)
    (hz : IsPw s.heap z it TO .none (.int 0 0)) (hTO : IsPair s.heap TO a b) (h1 : s.heap.IsListIter it l 0) (hl : s.heap.IsList l xs) (hx : xs[0]? = some x) (hy : xs[1]? = some y)
    (hQ : ∀ h', IsPw h' z it TO (rawInt s.heap.objs.size) y → IsPair h' TO x y → h'.IsListIter it l 2 → IsPair h' s.heap.objs.size x y → h'.objs.size = s.heap.objs.size + 1 →
      (∀ c o, c ≠ z → c ≠ TO → c ≠ it → s.heap.get? c = some o → h'.get? c = some o) → Q (.done (.ret (.ref s.heap.objs.size))) { s with heap := h' }) :
    wpAny (model prog w) A (Builtin.«itertools.pairwise.__next__» ⟨[.ref z], []⟩) Q E s := by
  show wpAny _ _ (field (.ref z) 2 >>= _) _ _ _
  refine wpAny_bind (wpAny_field hz rfl (x := .ref it) rfl ?_)
  show wpAny _ _ (if (Value.ref it == Value.none) = true then _ else _) _ _ s
  rw [if_neg (show ¬ ((Value.ref it == Value.none) = true) from Bool.false_ne_true)]
  show wpAny _ _ (field (.ref z) 3 >>= _) _ _ _
  refine wpAny_bind (wpAny_field hz rfl (x := .int 0 0) rfl ?_)
  show wpAny _ _ (if (Value.int 0 0 == itNothing) = true then _ else _) _ _ s
  rw [if_pos (by decide)]
  refine wpAny_bind (wpAny_rule ?_)
  refine wpAny_bind (wpAny_tryCatch (itnext_item h1 hl hx fun h₁ h1₁ hs₁ => ?_))
  have hz₁ : IsPw h₁ z it TO .none (.int 0 0) := hs₁.extBut _ _ D.itz.symm hz
  refine wpAny_bind (wpAny_setField_rec hz₁ (by simp) fun h₂ hz₂ hs₂ => ?_)
  replace hz₂ : IsPw h₂ z it TO .none x := hz₂
  show wpAny _ _ (field (.ref z) 2 >>= _) _ _ _
  refine wpAny_bind (wpAny_field hz₂ rfl (x := .ref it) rfl ?_)
  show wpAny _ _ (if (Value.ref it == Value.none) = true then _ else _) _ _ _
  rw [if_neg (show ¬ ((Value.ref it == Value.none) = true) from Bool.false_ne_true)]
  have sz : h₂.objs.size = s.heap.objs.size := by rw [hs₂.1, hs₁.1]
  refine pw_rest_item (s := { s with heap := h₂ }) D hz₂ (hs₂.extBut _ _ D.TOz (hs₁.extBut _ _ D.TOit hTO)) (h1₁.at fun o e => hs₂.extBut _ _ D.itz e) ((hl.extBut hs₁.extBut D.lit).extBut hs₂.extBut D.lz) hy fun h' a1 a2 a3 a4 a5 a6 => ?_
  have a1 : IsPw h' z it TO (rawInt h₂.objs.size) y := a1
  have a4 : IsPair h' h₂.objs.size x y := a4
  have a5 : h'.objs.size = h₂.objs.size + 1 := a5
  show Q (.done (.ret (.ref h₂.objs.size))) _
  rw [sz] at a1 a4 a5 ⊢
  exact hQ h' a1 a2 a3 a4 a5 fun c o c1 c2 c3 e => a6 c o c1 c2 c3 (hs₂.extBut _ _ c1 (hs₁.extBut _ _ c3 e))
/-- the end: no item is left behind the one ahead, or none at all -/
theorem pw_next_end {z it TO l : Addr} {k : Nat} {xs : Array Value} {x : Value} {Q : Fin → Shared → Prop} (hh : A.handled = none) (D : PwApart z TO it l)
    (hz : IsPw s.heap z it TO .none x) (h1 : s.heap.IsListIter it l k) (hl : s.heap.IsList l xs) (hc : (k = 0 ∧ x = .int 0 0 ∧ xs.size ≤ 1) ∨ xs[k]? = none)
    (hE : ∀ h' e, (∀ c o, c ≠ z → c ≠ it → s.heap.get? c = some o → h'.get? c = some o) → (∃ o, h'.get? e = some o ∧ o.cls = .type "StopIteration") → E (.ref e) { s with heap := h' }) :
    wpAny (model prog w) A (Builtin.«itertools.pairwise.__next__» ⟨[.ref z], []⟩) Q E s := by
  -- an exception of the draw: the object is emptied, the exception goes on
  have fin : ∀ (s' : Shared) (h' : Heap) (e : Addr) (x' : Value) (hld : List Value), s' = { s with heap := h' } → IsPw h' z it TO .none x' → (∀ c o, c ≠ z → c ≠ it → s.heap.get? c = some o → h'.get? c = some o) → (∃ o, h'.get? e = some o ∧ o.cls = .type "StopIteration") →
      ∀ {β : Type} (K : β → Shared → Prop), wpAny (model prog w) A ((do
        let old ← field (.ref z) 3
        setField (.ref z) 2 .none
        setField (.ref z) 3 itNothing
        letGo [.ref it, old] [.ref e]) >>= fun _ => (throw (Value.ref e) : Sem β)) K E s' := by
    rintro s' h' e x' hld rfl hz' hk he β K
    refine wpAny_bind ?_
    refine wpAny_bind (wpAny_field hz' rfl (x := x') rfl ?_)
    refine wpAny_bind (wpAny_setField_rec hz' (by simp) fun h₂ hz₂ hs₂ => ?_)
    refine wpAny_bind (wpAny_setField_rec hz₂ (by simp) fun h₃ hz₃ hs₃ => ?_)
    refine wpAny_letGo (wpAny_throw ?_)
    obtain ⟨o, ho, hcl⟩ := he
    have nez : e ≠ z := fun q => by
      rw [q, hz'] at ho
      cases ho
      simp at hcl
    exact hE h₃ e (fun c o c1 c2 q => hs₃.extBut _ _ c1 (hs₂.extBut _ _ c1 (hk c o c1 c2 q))) ⟨o, hs₃.extBut _ _ nez (hs₂.extBut _ _ nez ho), hcl⟩
  show wpAny _ _ (field (.ref z) 2 >>= _) _ _ _
  refine wpAny_bind (wpAny_field hz rfl (x := .ref it) rfl ?_)
  show wpAny _ _ (if (Value.ref it == Value.none) = true then _ else _) _ _ s
  rw [if_neg (show ¬ ((Value.ref it == Value.none) = true) from Bool.false_ne_true)]
  show wpAny _ _ (field (.ref z) 3 >>= _) _ _ _
  refine wpAny_bind (wpAny_field hz rfl (x := x) rfl ?_)
  show wpAny _ _ (if (x == itNothing) = true then _ else _) _ _ s
  rcases hc with ⟨rfl, rfl, hsz⟩ | hk
  · rw [if_pos (by decide)]
    refine wpAny_bind (wpAny_rule ?_)
    cases hx0 : xs[0]? with
    | none =>
      refine wpAny_bind (wpAny_tryCatch (itnext_end hh h1 hl hx0 fun h' e he ho => ?_))
      exact fin _ h' e _ [] rfl (he _ _ D.itz.symm hz) (fun c o c1 c2 q => he _ _ c2 q) ho _
    | some x0 =>
      have hx1 : xs[1]? = none := by simp; omega
      refine wpAny_bind (wpAny_tryCatch (itnext_item h1 hl hx0 fun h₁ h1₁ hs₁ => ?_))
      have hz₁ : IsPw h₁ z it TO .none (.int 0 0) := hs₁.extBut _ _ D.itz.symm hz
      refine wpAny_bind (wpAny_setField_rec hz₁ (by simp) fun h₂ hz₂ hs₂ => ?_)
      replace hz₂ : IsPw h₂ z it TO .none x0 := hz₂
      show wpAny _ _ (field (.ref z) 2 >>= _) _ _ _
      refine wpAny_bind (wpAny_field hz₂ rfl (x := .ref it) rfl ?_)
      show wpAny _ _ (if (Value.ref it == Value.none) = true then _ else _) _ _ _
      rw [if_neg (show ¬ ((Value.ref it == Value.none) = true) from Bool.false_ne_true)]
      show wpAny _ _ (field (.ref z) 3 >>= _) _ _ _
      refine wpAny_bind (wpAny_field hz₂ rfl (x := x0) rfl ?_)
      refine wpAny_bind (wpAny_holding (wpAny_tryCatch (itnext_end (s := { s with heap := h₂ }) hh (h1₁.at fun o e => hs₂.extBut _ _ D.itz e) ((hl.extBut hs₁.extBut D.lit).extBut hs₂.extBut D.lz) hx1 fun h' e he ho => ?_)))
      exact fin _ h' e _ [] rfl (he _ _ D.itz.symm hz₂) (fun c o c1 c2 q => he _ _ c2 (hs₂.extBut _ _ c1 (hs₁.extBut _ _ c2 q))) ho _
  · cases hx : x == itNothing with
    | true =>
      rw [if_pos rfl]
      refine wpAny_bind (wpAny_rule ?_)
      refine wpAny_bind (wpAny_tryCatch (itnext_end hh h1 hl hk fun h' e he ho => ?_))
      exact fin _ h' e _ [] rfl (he _ _ D.itz.symm hz) (fun c o c1 c2 q => he _ _ c2 q) ho _
    | false =>
      rw [if_neg Bool.false_ne_true]
      show wpAny _ _ (field (.ref z) 3 >>= _) _ _ _
      refine wpAny_bind (wpAny_field hz rfl (x := x) rfl ?_)
      refine wpAny_bind (wpAny_holding (wpAny_tryCatch (itnext_end hh h1 hl hk fun h' e he ho => ?_)))
      exact fin _ h' e _ [] rfl (he _ _ D.itz.symm hz) (fun c o c1 c2 q => he _ _ c2 q) ho _

theorem pw_go {elts : List Expr} {x1 : Nat} {pos : Pos} {z it TO T : Addr} {old : Value} {Q : Unit → Shared → Prop} (hz : IsPw s.heap z it TO (rawInt T) old)
    (hQ : ∀ h', IsPw h' z it TO .none old → Heap.SameBut z s.heap h' → Q () { s with heap := h' }) : wpAny (model prog w) A (letOwnedTupleGo (.Tuple elts x1 pos) (.ref z) (.ref T)) Q E s := by
  unfold letOwnedTupleGo
  refine wpAny_bind (wpAny_load hz ?_)
  show wpAny _ _ (if (["enumerate", "zip", "dict_itemiterator", "dict_reverseitemiterator", "odict_iterator", "itertools.zip_longest", "itertools.pairwise"].contains "itertools.pairwise" &&
      (#[rawInt T, .bool false, .ref it, old, .ref TO] : Array Value)[0]? == some (rawInt T)) = true then _ else _) Q E s
  rw [if_pos (by simp)]
  refine wpAny_bind (wpAny_rule ?_)
  show wpAny _ _ (setField (.ref z) 0 .none) Q E s
  exact wpAny_setField_rec hz (by simp) fun h' hz' hs' => hQ h' hz' hs'
theorem pw_pyIter {z it TO : Addr} {f0 old : Value} {Q : Value → Shared → Prop} (hz : IsPw s.heap z it TO f0 old) (h : Q (.ref z) s) : wpAny (model prog w) A (pyIter (.ref z)) Q E s := by
  have hT : s.TypeIs (.ref z) "itertools.pairwise" := ⟨_, hz, rfl⟩
  refine wpAny_pyIter_slot hT slot_pw_iter (wpAny_call_entry slot_pw_iter hT entry_pw_iter ?_ (args_pw_iter _))
  show wpAny _ _ (ret (.ref z)) _ _ s
  exact wpAny_pure ⟨_, rfl, "itertools.pairwise", _, hT, slot_pw_next.lookup, h⟩
end
end RFI
end
-- part RAccL
section
set_option Elab.async false
set_option linter.all false
set_option maxRecDepth 100000
set_option maxHeartbeats 1000000
/-! list(accumulate(xs)). -/
namespace RFI
open PySem PySem.Spec PyProof.Rows

section
variable {prog : Program} {w : World} {A : Around} {E : Value → Shared → Prop} {s : Shared} {R : Result → Shared → Prop}
variable {I : Addr} {fp wr : List Addr} {G : Array GenState → Array GenState → Prop} {n : Nat} {P : Nat → Value → Prop} {St : Nat → Shared → Prop}

theorem extend_it {T : String} (nl : typeLookup (.type T) "__len__" = pure none) (nh : typeLookup (.type T) "__length_hint__" = pure none) (h2 : (Value.type T == Value.type "list") = false) (h3 : (Value.type T == Value.type "tuple") = false)
    (W : WalksS prog w A.in1 I fp wr G n P St) (hT : ∀ i s, St i s → s.TypeIs (.ref I) T) (S : Addr) (res : Value) (c₀ : Nat) (hst : St 0 s) (hSf : S ∉ fp) (hI : I ∈ fp)
    (hS : s.heap.get? S = some { cls := .type "list", data := .seq #[] c₀ })
    (hR : ∀ s' acc' c', Moved (S :: wr) G s s' → s'.heap.get? S = some { cls := .type "list", dict := none, data := .seq acc' c', slots := #[] } → ItemsOf P acc' n → R (.ok (.ret res)) s') (hn : n ≤ sizeLine) :
    wpAny (model prog w) A.in1 (Builtin.List.listExtendWith (.ref S) (.ref I) res)
      (fun fin s' => match fin with | .done f => R (.ok f) s' | .again c' => c'.quiet = true ∧ codeAny (model prog w) A c' R s') (fun e s' => R (.error e) s') s := by
  have hSI : S ≠ I := fun e => hSf (e ▸ hI)
  unfold Builtin.List.listExtendWith
  refine wpAny_bind (wpAny_typeOf (hT 0 _ hst) ?_)
  have h1 : Builtin.List.listSameRef (.ref S) (.ref I) = false := by simp [Builtin.List.listSameRef, hSI]
  simp only [h1, h2, h3, Bool.or_false, Bool.false_eq_true, if_false]
  refine wpAny_bind (W.self 0 _ _ _ hst ?_)
  refine wpAny_bind (wpAny_holding ?_)
  unfold Builtin.List.listLengthHint
  refine wpAny_bind (wpAny_specialOf (hT 0 _ hst) nl ?_)
  show wpAny _ A.in1 (specialOf (Value.ref I) (Str.ofString "__length_hint__") >>= _) _ _ _
  refine wpAny_bind (wpAny_specialOf (hT 0 _ hst) nh ?_)
  refine wpAny_pure ?_
  show wpAny _ A.in1 (rule "list.extend.makes-room" >>= fun _ => Builtin.List.listTouch (.ref S) >>= fun _ =>
    again (.builtin "list.extend.loop" ⟨[.ref S, .ref I, res], []⟩)) _ _ _
  refine wpAny_bind (wpAny_rule ?_)
  refine wpAny_bind ?_
  show wpAny _ A.in1 (updateSeq S (·.push .none) >>= fun _ => updateSeq S (·.pop)) _ _ _
  refine wpAny_bind (wpAny_updateSeq hS rfl ?_)
  have hS₂ := Heap.get?_update_self (Obj.mapSeq (·.push Value.none)) hS rfl
  refine wpAny_updateSeq (hz := by seq_fits) hS₂ rfl ?_
  have hS₃ := Heap.get?_update_self (Obj.mapSeq (·.pop)) hS₂ rfl
  have oth : ∀ b o, b ≠ S → s.heap.get? b = some o → ((s.heap.update S (Obj.mapSeq (·.push Value.none))).update S (Obj.mapSeq (·.pop))).get? b = some o :=
    fun b o hb e => (Heap.get?_update_other _ _ (Ne.symm hb)).trans ((Heap.get?_update_other _ _ (Ne.symm hb)).trans e)
  refine wpAny_pure ⟨plainId_quiet F.plain_extend_loop _, codeAny_extend_loopS W hn _ hSf _ n 0 _ _ _ rfl (Nat.zero_le _)
    (W.frame 0 s _ s.toks hst (Nat.le_refl _) fun b hb o e => oth b o (fun h => hSf (h ▸ hb)) e) hS₃ (ItemsOf.nil P) fun s' acc' c' hm hS' hacc => ?_⟩
  exact hR s' acc' c' (Moved.trans W.gtrans ((Moved.refl W.grefl).then_heap (Nat.le_refl _) fun b o hb e => oth b o (fun h => hb (h ▸ List.mem_cons_self)) e) hm) hS' hacc

theorem list_init_it {T : String} (nl : typeLookup (.type T) "__len__" = pure none) (nh : typeLookup (.type T) "__length_hint__" = pure none) (h2 : (Value.type T == Value.type "list") = false) (h3 : (Value.type T == Value.type "tuple") = false)
    (W : WalksS prog w A.in1 I fp wr G n P St) (hT : ∀ i s, St i s → s.TypeIs (.ref I) T) (S : Addr) (hst : St 0 s) (hSf : S ∉ fp) (hI : I ∈ fp)
    (hS : s.heap.get? S = some { cls := .type "list", data := .seq #[] })
    (hR : ∀ s' acc' c', Moved (S :: wr) G s s' → s'.heap.get? S = some { cls := .type "list", dict := none, data := .seq acc' c', slots := #[] } → ItemsOf P acc' n → R (.ok (.ret .none)) s') (hn : n ≤ sizeLine) :
    wpAny (model prog w) A.in1 (Builtin.«list.__init__» ⟨[.ref S, .ref I], []⟩)
      (fun fin s' => match fin with | .done f => R (.ok f) s' | .again c' => c'.quiet = true ∧ codeAny (model prog w) A c' R s') (fun e s' => R (.error e) s') s := by
  show wpAny _ A.in1 (do let old ← Builtin.List.listItems (.ref S); Builtin.List.listUpdate (.ref S) (fun _ => #[]); letGo old.toList.reverse; Builtin.List.listExtendWith (.ref S) (.ref I) .none) _ _ s
  refine wpAny_bind ?_
  unfold Builtin.List.listItems
  refine wpAny_bind (wpAny_seqItems hS rfl (wpAny_pure ?_))
  show wpAny _ A.in1 (updateSeq S (fun _ => #[]) >>= fun _ => letGo (#[] : Array Value).toList.reverse >>= fun _ => Builtin.List.listExtendWith (.ref S) (.ref I) .none) _ _ s
  refine wpAny_bind (wpAny_updateSeq hS rfl ?_)
  have hS₂ := Heap.get?_update_self (Obj.mapSeq (fun _ => (#[] : Array Value))) hS rfl
  have oth : ∀ b o, b ≠ S → s.heap.get? b = some o → (s.heap.update S (Obj.mapSeq (fun _ => (#[] : Array Value)))).get? b = some o :=
    fun b o hb e => (Heap.get?_update_other _ _ (Ne.symm hb)).trans e
  refine wpAny_bind (wpAny_letGo ?_)
  refine extend_it nl nh h2 h3 (hn := hn) W hT S .none _ (W.frame 0 s _ s.toks hst (Nat.le_refl _) fun b hb o e => oth b o (fun h => hSf (h ▸ hb)) e) hSf hI hS₂ fun s' acc' c' hm hS' hacc => ?_
  exact hR s' acc' c' (Moved.trans W.gtrans ((Moved.refl W.grefl).then_heap (Nat.le_refl _) fun b o hb e => oth b o (fun h => hb (h ▸ List.mem_cons_self)) e) hm) hS' hacc

theorem call_list_it {T : String} {Q : Value → Shared → Prop} (nl : typeLookup (.type T) "__len__" = pure none) (nh : typeLookup (.type T) "__length_hint__" = pure none) (h2 : (Value.type T == Value.type "list") = false) (h3 : (Value.type T == Value.type "tuple") = false)
    (W : WalksS prog w A.in1.in1 I fp wr G n P St) (hT : ∀ i s, St i s → s.TypeIs (.ref I) T) (hst : St 0 s) (hfp : ∀ b ∈ fp, b < s.heap.objs.size) (hI : I ∈ fp)
    (hQ : ∀ s' acc' c', Moved (s.heap.objs.size :: wr) G { s with heap := s.heap.push { cls := .type "list", data := .seq #[] } } s' →
      s'.heap.get? s.heap.objs.size = some { cls := .type "list", dict := none, data := .seq acc' c', slots := #[] } → ItemsOf P acc' n → Q (.ref s.heap.objs.size) s') (hn : n ≤ sizeLine) :
    wpAny (model prog w) A (call (.type "list") [.ref I]) Q E s := by
  have hSf : s.heap.objs.size ∉ fp := fun hm => Nat.lt_irrefl _ (hfp _ hm)
  refine callType_codes (Q₁ := fun obj s₁ => obj = .ref s.heap.objs.size ∧ s₁ = { s with heap := s.heap.push { cls := .type "list", data := .seq #[] } }) F.called_list (F.typeCall_list_1 _) F.entry_list_init
    (code_list_new _ ⟨rfl, rfl⟩) fun obj s₁ h₁ => ?_
  obtain ⟨rfl, rfl⟩ := h₁
  have hS : (s.heap.push { cls := .type "list", data := .seq #[] }).get? s.heap.objs.size = some { cls := .type "list", data := .seq #[] } := Heap.get?_push_size _ rfl
  refine ⟨⟨_, hS, rfl⟩, F.args_list_init_2 _ _, list_init_it nl nh h2 h3 (hn := hn) W hT _ (W.frame 0 s _ s.toks hst (Nat.le_refl _) fun b _ o e => Heap.get?_push_of_some _ e) hSf hI hS fun s' acc' c' hm hS' hacc => ?_⟩
  exact ⟨rfl, hQ s' acc' c' hm hS' hacc⟩

/-- the sums of the first ones, one, two, .. -/
def psum (ns : List Int) : List Int := (List.range ns.length).map fun i => (ns.take (i + 1)).sum

theorem list_acc_list {l : Addr} {its : Array Value} {ns : List Int} {Q : Value → Shared → Prop} (ok : Prop) (hok : ok → ∀ (i : Nat) (v : Value), its[i]? = some v → (v == Builtin.Itertools.itNothing) = false) (htk : ok → 1 ≤ s.toks) (hh : A.handled = none) (hl : s.heap.IsList l its) (hlen : its.size = ns.length) (hi : ∀ (i : Nat) (v : Value), its[i]? = some v → ∃ x t, ns[i]? = some x ∧ v = .int x t) (hn : its.size ≤ sizeLine)
    (hq : ∀ (h' : Heap) (k : Nat) (p : Addr) (acc : List Value) (c : Nat), s.heap.objs.size ≤ p → (∀ b o, s.heap.get? b = some o → h'.get? b = some o) → h'.get? p = some { cls := .type "list", dict := none, data := .seq acc.toArray c, slots := #[] } →
      acc.length = ns.length → (∀ (i : Nat) (v : Value), acc[i]? = some v → (∃ t, v = .int (ns.take (i + 1)).sum t) ∧ (ok → (v == Builtin.Itertools.itNothing) = false)) → Q (.ref p) { s with heap := h', toks := k }) :
    wpAny (model prog w) A (call (.type "itertools.accumulate") [.ref l]) (fun v s1 => wpAny (model prog w) A (call (.type "list") [v]) Q E s1) E s := by
  have ll : l < s.heap.objs.size := by obtain ⟨o, ho, _⟩ := hl; exact Heap.lt_size ho
  refine call_acc (wpAny_pyIter_list hl ?_)
  intro h' hM hsz hk
  have hs1 : (s.heap.push { cls := .type "list_iterator", data := .fields #[.ref l, .int 0 0] }).objs.size = s.heap.objs.size + 1 := Heap.size_push ..
  have hit : h'.IsListIter s.heap.objs.size l 0 := ⟨_, hk _ _ (Heap.get?_push_size _ rfl), rfl, rfl⟩
  have hL : h'.IsList l its := (hl.push _).at fun o e => hk _ o e
  rw [hs1] at hM ⊢
  have hmi : s.heap.objs.size + 1 ≠ s.heap.objs.size := Nat.succ_ne_self _
  have hml : s.heap.objs.size + 1 ≠ l := Nat.ne_of_gt (Nat.lt_succ_of_lt ll)
  have W := walks_acc (prog := prog) (w := w) (A := A.in1.in1) (items := its) ok hok ns hi hh hmi hml (Nat.ne_of_lt ll)
  have hsz' : h'.objs.size = s.heap.objs.size + 2 := by rw [hsz, hs1]
  refine call_list_it (T := "itertools.accumulate") nolen_acc nohint_acc (by decide) (by decide) W (fun i s st => ⟨_, (Classical.choose_spec st.1), rfl⟩) ⟨⟨0, by simpa using hM⟩, ⟨hit, hL⟩, htk⟩ (fun b hb => ?_) (by simp) (fun s' acc' c' hm hS' hacc => ?_) hn
  · show b < h'.objs.size
    rw [hsz']
    simp at hb
    rcases hb with z | z | z
    · rw [z]; exact Nat.lt_succ_self _
    · rw [z]; exact Nat.lt_succ_of_lt (Nat.lt_succ_self _)
    · rw [z]; exact Nat.lt_succ_of_lt (Nat.lt_succ_of_lt ll)
  · have hm' := hm.heap
    have e : s' = { s with heap := s'.heap, toks := s'.toks } := by
      obtain ⟨a, b, c, d, f⟩ := s'
      have h1 := hm.gens; have h2 := hm.drawn; have h3 := hm.os
      simp only at h1 h2 h3
      subst h1; subst h2; subst h3
      rfl
    rw [e]
    have hacc' : acc'.size = its.size := hacc.1
    refine hq s'.heap s'.toks h'.objs.size acc'.toList c' (by rw [hsz']; omega) (fun b o q => ?_) (by rw [hS']) (by rw [Array.length_toList, hacc', hlen]) (fun i v hv => ?_)
    · have hb : b < s.heap.objs.size := Heap.lt_size q
      refine hm' b o (fun hmem => ?_) (Heap.get?_push_of_some _ (hk _ _ (Heap.get?_push_of_some _ q)))
      have hmem : b ∈ h'.objs.size :: [s.heap.objs.size + 1, s.heap.objs.size] := hmem
      simp at hmem
      rcases hmem with z | z | z
      · rw [hsz'] at z; rw [z] at hb; exact absurd (Nat.lt_of_succ_lt (Nat.lt_of_succ_lt hb)) (Nat.lt_irrefl _)
      · rw [z] at hb; exact absurd (Nat.lt_of_succ_lt hb) (Nat.lt_irrefl _)
      · rw [z] at hb; exact absurd hb (Nat.lt_irrefl _)
    · exact hacc.2 i v (by simpa using hv)
end
end RFI
end
-- part RAccP
section
set_option Elab.async false
set_option linter.all false
set_option maxRecDepth 100000
set_option maxHeartbeats 1000000
namespace RFI
open PySem PySem.Spec PyProof.Rows L2
theorem paired_of {α β : Type} {F : α → β → Prop} : ∀ {l₁ : List α} {l₂ : List β}, l₁.length = l₂.length → (∀ (i : Nat) (a : α) (b : β), l₁[i]? = some a → l₂[i]? = some b → F a b) → Paired F l₁ l₂
  | [], [], _, _ => .nil
  | a :: l₁, b :: l₂, h, g => .cons (g 0 a b rfl rfl) (paired_of (Nat.succ.inj h) fun i x y h1 h2 => g (i + 1) x y h1 h2)
theorem psum_len (ns : List Int) : (psum ns).length = ns.length := by unfold psum; rw [List.length_map, List.length_range]
section
variable {X : Cx}
/-- list(accumulate(xs)), xs a list of whole numbers -/
def tListAcc (K : PySem.W.Frag) (ta : TA) : TE := fun σ H Q => ta σ H fun vs H2 => ∃ (q : Addr) (ns : List Int), vs = [.ref q] ∧ SqL K H2 q (ns.map V.int) ∧ ∀ p, H2 p = none → Q (.ref p) (upd H2 p (.lst ((psum ns).map V.int)))
theorem pe_listAcc {e : Expr} {ta : TA} {p0 pos p pos2 : Pos} (hc : X.calm = true) (hgl : Gl X "list") (hml : X.mg "list" = none) (hg : Gl X "accumulate") (hm : X.mg "accumulate" = some (.type "itertools.accumulate")) (ha : PA X [e] ta)
    (hs1 : starEach [.Call (.Name "accumulate" p) [e] [] pos2] X.env = (false, eval (.Call (.Name "accumulate" p) [e] [] pos2) X.env) :: starEach [] X.env := by rfl)
    (hp1 : (backTo pos (starEach [] X.env)).any (·.1) = false := by rfl) (hs : starEach [e] X.env = (false, eval e X.env) :: starEach [] X.env := by rfl) (hpl : (backTo pos2 (starEach [] X.env)).any (·.1) = false := by rfl) :
    PE X (.Call (.Name "list" p0) [.Call (.Name "accumulate" p) [e] [] pos2] [] pos) (tListAcc X.K ta) := by
  refine ⟨fun pins s σ H Q I h => ?_⟩
  refine wpAny_Call_Name_kw (ld_blt (u := .type "list") I hgl hml (by decide +kernel) ?_)
  refine PyProof.Rows.callWith_type1 ?_ hs1 hp1
  rw [hs1]
  show wpAny _ _ (spliced ((false, eval (.Call (.Name "accumulate" p) [e] [] pos2) X.env) :: backTo pos (starEach [] X.env))) _ _ s
  refine Calls.spliced_cons ?_
  refine wpAny_Call_Name_kw (ld_glob I hg hm ?_)
  refine PyProof.Rows.callWith_type1 ?_ hs hpl
  refine thn (ha.run pos2 pins s σ H _ I h) fun us s3 ⟨vs, H2, I3, r3, q3⟩ => ?_
  obtain ⟨q, ns, rfl, hq, q3⟩ := q3
  cases r3 with
  | cons r rr =>
    cases rr
    cases r
    obtain ⟨its, rv, pl, hsz⟩ := I3.list hq
    have hlen : its.length = ns.length := by rw [← rv.length, List.length_map]
    have hi : ∀ (i : Nat) (v : Value), its.toArray[i]? = some v → ∃ x t, ns[i]? = some x ∧ v = .int x t := fun i v hv => by
      have hv' : its[i]? = some v := by simpa using hv
      have hlt : i < ns.length := by have := (List.getElem?_eq_some_iff.mp hv').1; omega
      have hn : (ns.map V.int)[i]? = some (V.int ns[i]) := by rw [List.getElem?_map, List.getElem?_eq_getElem hlt]; rfl
      obtain ⟨u, hu, ru⟩ := rv.get hn
      have eu : u = v := Option.some.inj (hu.symm.trans hv')
      subst eu
      obtain ⟨t, rfl⟩ := ru
      exact ⟨_, t, List.getElem?_eq_getElem hlt, rfl⟩
    refine wpAny_mono (list_acc_list (Q := EP X pins σ Q) (E := X.xe) False (fun z => z.elim) (fun z => z.elim) (I3.ok.hd hc) pl.isList (by simpa using hlen) hi (by simp only [List.size_toArray]; rw [hlen]; simpa using hsz) fun h' k a acc c hp hk ha' hal hav => ?_) (fun v s4 h4 => Calls.spliced_nil h4) fun _ _ z => z
    have rv2 : Vals ((psum ns).map V.int) acc := by
      have hl2 : ((psum ns).map V.int).length = acc.length := by rw [List.length_map, psum_len, hal]
      refine paired_of hl2 fun i x u h1 h2 => ?_
      obtain ⟨⟨t, rfl⟩, _⟩ := hav i u h2
      have hlt : i < ns.length := by have := (List.getElem?_eq_some_iff.mp h2).1; omega
      have e1 : ((psum ns).map V.int)[i]? = some (V.int (ns.take (i + 1)).sum) := by
        unfold psum
        rw [List.getElem?_map, List.getElem?_map, List.getElem?_range hlt]; rfl
      rw [e1] at h1
      cases h1
      exact ⟨t, rfl⟩
    refine ⟨.ref a, _, I3.laid (t' := k) hk hp (show ObjOk X.prog X.w _ h' a (.lst ((psum ns).map V.int)) from ⟨by rw [List.length_map, psum_len]; simpa using hsz, acc, c, rv2, ha'⟩), rfl, q3 a (I3.hok.fresh hp)⟩
end
end RFI
end
-- part RPwP
section
set_option Elab.async false
set_option linter.all false
set_option maxRecDepth 100000
set_option maxHeartbeats 1000000
/-! for a, b in pairwise(xs): the layer's rule. -/
namespace RFI
open PySem PySem.Spec PyProof.Rows L2
open PySem.Builtin.Itertools
/-- a value that pairwise does not take for its own mark -/
def Cl (v : Value) : Prop := (v == itNothing) = false
theorem cl_of {v : Value} (h : v ≠ .int 0 0) : Cl v := by
  unfold Cl
  cases e : v == itNothing with
  | false => rfl
  | true => exact absurd (beq_iff_eq.mp e) h
theorem cl_ne {v : Value} (h : Cl v) : v ≠ .int 0 0 := fun e => by
  subst e
  unfold Cl at h
  exact absurd h (by decide)
theorem cl_int {x : V} {u : Value} (r : RelV x u) (h : x ≠ .int 0) : Cl u := cl_of fun e => by
  subst e
  cases x with
  | int i =>
    obtain ⟨t, e⟩ := r
    injection e with e1
    exact h (by rw [e1])
  | non => cases r
  | bl b => cases r
  | str z => obtain ⟨t, e⟩ := r; cases e
  | byt b => obtain ⟨t, e⟩ := r; cases e
  | flt b => obtain ⟨t, e⟩ := r; cases e
  | ref a => cases r
  | ty n => cases r
/-- an object whose items all are such -/
def ClO (o : Obj) : Prop := ∃ its n, o.data = .seq its n ∧ ∀ v ∈ its.toList, Cl v
/-- the list at a holds such values alone -/
def ClAt (K : PySem.W.Frag) (H : Hp) (a : Addr) (xs : List V) : Prop := (∃ o, (H a = some (.frz o (.lst xs)) ∨ K.lookup a = some o) ∧ ClO o) ∨ ∀ x ∈ xs, x ≠ V.int 0
section
variable {X : Cx} {pins : List (Addr × Obj)} {σ : L2.St} {H : Hp} {s : Shared} {a : Addr} {xs : List V}
theorem clean_list (I : Inv X pins σ H s) (hq : SqL X.K H a xs) (hc : ClAt X.K H a xs) : ∃ its : List Value, Vals xs its ∧ PlainL s.heap a its.toArray ∧ ∀ v ∈ its, Cl v := by
  obtain ⟨its, r, p, _⟩ := I.list hq
  refine ⟨its, r, p, ?_⟩
  rcases hc with ⟨o, ho, its', n, hd, hcl⟩ | hc
  · have e : s.heap.get? a = some o := by
      rcases ho with ho | ho
      · exact (I.hok a _ ho).1
      · exact I.kIn a o ho
    obtain ⟨o2, n2, e2, _, _, d2⟩ := p
    rw [e] at e2
    cases e2
    rw [hd] at d2
    injection d2 with d3 _
    intro v hv
    exact hcl v (by rw [d3]; simpa using hv)
  · intro v hv
    obtain ⟨i, hi, e⟩ := List.getElem_of_mem hv
    have hl := r.length
    have hx : xs[i]? = some xs[i] := List.getElem?_eq_getElem (by omega)
    obtain ⟨u, hu, ru⟩ := r.get hx
    have eu : u = v := by
      rw [List.getElem?_eq_getElem hi] at hu
      rw [← e]; exact (Option.some.inj hu).symm
    subst eu
    exact cl_int ru (hc _ (List.getElem_mem _))
end
/-- an object whose items but the first and the last are such -/
def ClIO (o : Obj) : Prop := ∃ its n, o.data = .seq its n ∧ ∀ (i : Nat) (v : Value), 0 < i → i + 1 < its.size → its[i]? = some v → Cl v
/-- the list at a holds such values alone, but at its two ends -/
def ClI (K : PySem.W.Frag) (H : Hp) (a : Addr) (xs : List V) : Prop := (∃ o, (H a = some (.frz o (.lst xs)) ∨ K.lookup a = some o) ∧ ClIO o) ∨ ∀ (i : Nat), 0 < i → i + 1 < xs.length → xs[i]? ≠ some (V.int 0)
theorem ClO.toI {o : Obj} (h : ClO o) : ClIO o := let ⟨its, n, e, c⟩ := h; ⟨its, n, e, fun i v _ _ hv => c v (by simpa using Array.mem_of_getElem? hv)⟩
theorem ClAt.toI {K : PySem.W.Frag} {H : Hp} {a : Addr} {xs : List V} (h : ClAt K H a xs) : ClI K H a xs := by
  rcases h with ⟨o, h1, h2⟩ | h
  · exact .inl ⟨o, h1, h2.toI⟩
  · exact .inr fun i _ _ e => h _ (List.mem_of_getElem? e) rfl
section
variable {X : Cx} {pins : List (Addr × Obj)} {σ : L2.St} {H : Hp} {s : Shared} {a : Addr} {xs : List V}
theorem clean_listI (I : Inv X pins σ H s) (hq : SqL X.K H a xs) (hc : ClI X.K H a xs) : ∃ its : List Value, Vals xs its ∧ PlainL s.heap a its.toArray ∧ ∀ (i : Nat) (v : Value), 0 < i → i + 1 < its.length → its[i]? = some v → Cl v := by
  obtain ⟨its, r, p, _⟩ := I.list hq
  refine ⟨its, r, p, ?_⟩
  rcases hc with ⟨o, ho, its', n, hd, hcl⟩ | hc
  · have e : s.heap.get? a = some o := by
      rcases ho with ho | ho
      · exact (I.hok a _ ho).1
      · exact I.kIn a o ho
    obtain ⟨o2, n2, e2, _, _, d2⟩ := p
    rw [e] at e2
    cases e2
    rw [hd] at d2
    injection d2 with d3 _
    intro i v h0 h1 hv
    exact hcl i v h0 (by rw [d3]; simpa using h1) (by rw [d3]; simpa using hv)
  · intro i v h0 h1 hv
    have hl := r.length
    have hx : xs[i]? = some xs[i] := List.getElem?_eq_getElem (by omega)
    obtain ⟨u, hu, ru⟩ := r.get hx
    rw [hv] at hu
    cases hu
    exact cl_int ru fun z => hc i h0 (by omega) (by rw [hx, z])
end
/-- the list at a, its neighbours in new pairs -/
def Itp (K : PySem.W.Frag) (a : Addr) (xs : List V) : It :=
  ⟨fun i H => SqL K H a xs ∧ ClI K H a xs ∧ i + 1 < xs.length,
    fun i H v H' => ∃ T x y, v = .ref T ∧ H T = none ∧ H' = upd H T (.tup [x, y]) ∧ xs[i]? = some x ∧ xs[i + 1]? = some y,
    fun i H => SqL K H a xs ∧ ClI K H a xs ∧ xs.length ≤ i + 1⟩
theorem turn_pw {P : Program} {w : World} {K : PySem.W.Frag} {elts : List Expr} {kk : Nat} {tpos : Pos} {a z TO it : Addr} {xs : List V} (D : PwApart z TO it a) :
    Turn P w K (.Tuple elts kk tpos) (Itp K a xs) [z, TO, it] z (fun i h => ∃ old, IsPw h z it TO .none old ∧ (∃ x y, IsPair h TO x y) ∧
      ((i = 0 ∧ old = .int 0 0 ∧ h.IsListIter it a 0) ∨ (0 < i ∧ (i + 1 < xs.length → Cl old) ∧ (∃ x, xs[i]? = some x ∧ RelV x old) ∧ h.IsListIter it a (i + 1)))) where
  mem := by simp
  obj := fun i h st c hc => by
    obtain ⟨old, hz, ⟨x, y, hTO⟩, h1⟩ := st
    have hit : ∃ k, h.IsListIter it a k := by
      rcases h1 with ⟨_, _, h1⟩ | ⟨_, _, _, h1⟩
      · exact ⟨_, h1⟩
      · exact ⟨_, h1⟩
    obtain ⟨k, o1, e1, _, d1⟩ := hit
    have e' : c = z ∨ c = TO ∨ c = it := by simpa using hc
    rcases e' with q | q | q
    · rw [q]; exact ⟨_, hz, fun v q => nomatch q⟩
    · rw [q]; exact ⟨_, hTO, fun v q => nomatch q⟩
    · rw [q]; exact ⟨o1, e1, fun v q => by rw [d1] at q; cases q⟩
  keep := fun i h h' st k => by
    obtain ⟨old, hz, ⟨x, y, hTO⟩, h1⟩ := st
    refine ⟨old, k z (by simp) _ hz, ⟨x, y, k TO (by simp) _ hTO⟩, ?_⟩
    rcases h1 with ⟨e1, e2, h1⟩ | ⟨e1, e2, e3, h1⟩
    · exact .inl ⟨e1, e2, h1.at fun o q => k it (by simp) o q⟩
    · exact .inr ⟨e1, e2, e3, h1.at fun o q => k it (by simp) o q⟩
  item := by
    intro X hP hw hK hc i pins s σ H E I hf st hg
    subst hP hw hK
    obtain ⟨old, hz, ⟨x0, y0, hTO⟩, h1⟩ := st
    obtain ⟨hq, hcl, hlt⟩ := hg
    obtain ⟨its, rv, p, cls⟩ := clean_listI I hq hcl
    have hlen := rv.length
    have hx : xs[i]? = some xs[i] := List.getElem?_eq_getElem (by omega)
    have hy : xs[i + 1]? = some xs[i + 1] := List.getElem?_eq_getElem hlt
    obtain ⟨u, hu, ru⟩ := rv.get hx
    obtain ⟨u2, hu2, ru2⟩ := rv.get hy
    have cu2 : i + 1 + 1 < xs.length → Cl u2 := fun h => cls (i + 1) u2 (Nat.succ_pos _) (by omega) hu2
    have hzl : z < s.heap.objs.size := Heap.lt_size hz
    have hT0 : s.TypeIs (.ref z) "itertools.pairwise" := ⟨_, hz, rfl⟩
    -- whatever the first of the two is: the turn's end
    have fin : ∀ (v : Value), RelV xs[i] v → ∀ h', IsPw h' z it TO (rawInt s.heap.objs.size) u2 → IsPair h' TO v u2 → h'.IsListIter it a (i + 2) → IsPair h' s.heap.objs.size v u2 → h'.objs.size = s.heap.objs.size + 1 →
        (∀ c o, c ≠ z → c ≠ TO → c ≠ it → s.heap.get? c = some o → h'.get? c = some o) →
        ∃ u, some (Value.ref s.heap.objs.size) = some u ∧ wpAny (model X.prog X.w) X.A (letOwnedTupleGo (.Tuple elts kk tpos) (.ref z) u) (fun _ s2 => ∃ x H', Inv X pins σ H' s2 ∧ RelV x u ∧ (Itp X.K a xs).yld i H x H' ∧
          (∃ old, IsPw s2.heap z it TO .none old ∧ (∃ x y, IsPair s2.heap TO x y) ∧ ((i + 1 = 0 ∧ old = .int 0 0 ∧ s2.heap.IsListIter it a 0) ∨ (0 < i + 1 ∧ (i + 1 + 1 < xs.length → Cl old) ∧ (∃ x, xs[i + 1]? = some x ∧ RelV x old) ∧ s2.heap.IsListIter it a (i + 1 + 1)))) ∧ ∀ b ∈ [z, TO, it], H' b = none) E { s with heap := h' } := by
      intro v rv1 h' z' TO' h1' hT hsz hk
      refine ⟨_, rfl, pw_go (s := { s with heap := h' }) z' fun h'' z'' sb => ?_⟩
      have hT2 : h''.get? s.heap.objs.size = some { cls := .type "tuple", data := .seq #[v, u2] } := (sb.2 _ (Nat.ne_of_gt hzl)).trans hT
      have new : ObjOk X.prog X.w (upd H s.heap.objs.size (.tup [xs[i], xs[i + 1]])) h'' s.heap.objs.size (.tup [xs[i], xs[i + 1]]) :=
        ⟨by show 2 ≤ sizeLine; decide, [v, u2], .cons rv1 (.cons ru2 .nil), ⟨_, hT2, rfl, _, rfl⟩⟩
      have I1 : Inv X pins σ (upd H s.heap.objs.size (.tup [xs[i], xs[i + 1]])) { s with heap := h'' } :=
        I.turnedNew (t' := s.toks) (ch := [z, TO, it]) (fun c o hb q => (sb.2 c (fun q' => hb (by simp [q']))).trans (hk c o (fun q' => hb (by simp [q'])) (fun q' => hb (by simp [q'])) (fun q' => hb (by simp [q'])) q)) hf (Nat.le_refl _) new
      refine ⟨.ref s.heap.objs.size, _, I1, rfl, ⟨_, _, _, rfl, I.hok.fresh (Nat.le_refl _), rfl, hx, hy⟩, ⟨u2, z'', ⟨v, u2, (sb.2 _ D.TOz).trans TO'⟩, .inr ⟨Nat.succ_pos _, cu2, ⟨_, hy, ru2⟩, h1'.at fun o q => (sb.2 _ D.itz).trans q⟩⟩, fun c hcm => ?_⟩
      have hlt : c < s.heap.objs.size := by
        have e' : c = z ∨ c = TO ∨ c = it := by simpa using hcm
        rcases e' with q | q | q
        · rw [q]; exact hzl
        · rw [q]; exact Heap.lt_size hTO
        · rw [q]
          rcases h1 with ⟨_, _, h1⟩ | ⟨_, _, _, h1⟩
          · obtain ⟨_, e1, _⟩ := h1; exact Heap.lt_size e1
          · obtain ⟨_, e1, _⟩ := h1; exact Heap.lt_size e1
      rw [upd_ne (Nat.ne_of_lt hlt)]
      exact (hf c hcm).1
    unfold pyNext
    refine wpAny_bind (wpAny_attempt (wpAny_callSpecial?_slot (name := Str.ofString "__next__") hT0 slot_pw_next (wpAny_call_entry slot_pw_next hT0 entry_pw_next ?_ (args_pw_next _))))
    rcases h1 with ⟨rfl, rfl, h1⟩ | ⟨hi, co, ⟨x, hxx, rx⟩, h1⟩
    · refine pw_next_first D hz hTO h1 p.isList (x := u) (y := u2) (by simpa using hu) (by simpa using hu2) fun h' z' TO' h1' hT hsz hk => ⟨_, rfl, ?_⟩
      exact wpAny_pure (fin u ru h' z' TO' h1' hT hsz hk)
    · rw [hx] at hxx
      cases hxx
      refine pw_next_more D hz hTO h1 p.isList (co hlt) (y := u2) (by simpa using hu2) fun h' z' TO' h1' hT hsz hk => ⟨_, rfl, ?_⟩
      exact wpAny_pure (fin old rx h' z' TO' h1' hT hsz hk)
  done := by
    intro X hP hw hK hc i pins s σ H E I hf st hg
    subst hP hw hK
    obtain ⟨old, hz, ⟨x0, y0, hTO⟩, h1⟩ := st
    obtain ⟨hq, hcl, hend⟩ := hg
    obtain ⟨its, rv, p, cls⟩ := clean_listI I hq hcl
    have hlen := rv.length
    have hT0 : s.TypeIs (.ref z) "itertools.pairwise" := ⟨_, hz, rfl⟩
    have goal : ∀ h' e, (∀ c o, c ≠ z → c ≠ it → s.heap.get? c = some o → h'.get? c = some o) → (∃ o, h'.get? e = some o ∧ o.cls = .type "StopIteration") →
        wpAny (model X.prog X.w) X.A (do if ← isInstance (.ref e) (.type "StopIteration") then pure (none : Option Value) else throw (.ref e)) (fun r s1 => r = none ∧ Inv X pins σ H s1) E { s with heap := h' } := by
      intro h' e hk ⟨o, ho, hcl'⟩
      refine wpAny_bind (wpAny_isInstance (T := "StopIteration") (b := true) ⟨o, ho, hcl'⟩ isSubtype_stop ?_)
      exact wpAny_pure ⟨rfl, I.turnedL (t' := s.toks) (ch := [z, TO, it]) (fun c o hb q => hk c o (fun q' => hb (by simp [q'])) (fun q' => hb (by simp [q'])) q) hf⟩
    unfold pyNext
    refine wpAny_bind (wpAny_attempt (wpAny_callSpecial?_slot (name := Str.ofString "__next__") hT0 slot_pw_next (wpAny_call_entry slot_pw_next hT0 entry_pw_next ?_ (args_pw_next _))))
    rcases h1 with ⟨rfl, rfl, h1⟩ | ⟨hi, co, ⟨x, hxx, rx⟩, h1⟩
    · exact pw_next_end (I.ok.hd hc) D hz h1 p.isList (.inl ⟨rfl, rfl, by rw [List.size_toArray]; omega⟩) fun h' e hk he => goal h' e hk he
    · exact pw_next_end (I.ok.hd hc) D hz h1 p.isList (.inr (by simp; omega)) fun h' e hk he => goal h' e hk he
  self := fun A i s Q E st h => let ⟨_, hz, _⟩ := st; pw_pyIter hz h
def iPw (K : PySem.W.Frag) (ta : TA) : TI := fun σ H R => ta σ H fun vs H1 => ∃ a xs, vs = [.ref a] ∧ SqL K H1 a xs ∧ R (Itp K a xs) H1
theorem pi_pw {X : Cx} {e : Expr} {ta : TA} {p pos tpos : Pos} {elts : List Expr} {kk : Nat} (hg : Gl X "pairwise") (hm : X.mg "pairwise" = some (.type "itertools.pairwise")) (ha : PA X [e] ta)
    (hs : starEach [e] X.env = (false, eval e X.env) :: starEach [] X.env := by rfl) (hpl : (backTo pos (starEach [] X.env)).any (·.1) = false := by rfl) :
    PI X (.Tuple elts kk tpos) (.Call (.Name "pairwise" p) [e] [] pos) (iPw X.K ta) := by
  refine ⟨fun pins s σ H R I h => ?_⟩
  refine Call_ (ld_glob I hg hm (PyProof.Rows.callWith_type1 (thn (ha.run pos pins s σ H _ I h) fun us s1 ⟨vs, H1, I1, r1, q1⟩ => ?_) hs hpl))
  obtain ⟨a, xs, ex, hqx, q⟩ := q1
  subst ex
  cases r1 with
  | cons r rr =>
    cases rr
    cases r
    obtain ⟨its, rv, p1, _⟩ := I1.list hqx
    have la : a < s1.heap.objs.size := p1.lt
    refine call_pw p1.isList fun h' hz hTO h1 hsz hk => pw_pyIter hz ?_
    have I2 : Inv X pins σ H1 { s1 with heap := h' } := I1.kept (t' := s1.toks) hk
    have D : PwApart (s1.heap.objs.size + 2) (s1.heap.objs.size + 1) s1.heap.objs.size a :=
      ⟨Nat.ne_of_lt (Nat.lt_succ_self _), Nat.ne_of_lt (Nat.lt_succ_of_lt (Nat.lt_succ_self _)), Nat.ne_of_lt (Nat.lt_succ_of_lt (Nat.lt_succ_of_lt la)), Nat.succ_ne_self _, Nat.ne_of_lt (Nat.lt_succ_of_lt la), Nat.ne_of_lt la⟩
    refine ⟨s1.heap.objs.size + 2, [s1.heap.objs.size + 2, s1.heap.objs.size + 1, s1.heap.objs.size], _, _, H1, rfl, I2, turn_pw D, ⟨_, hz, ⟨_, _, hTO⟩, .inl ⟨rfl, rfl, h1⟩⟩, fun c hcm => ?_, q⟩
    have e' : c = s1.heap.objs.size + 2 ∨ c = s1.heap.objs.size + 1 ∨ c = s1.heap.objs.size := by simpa using hcm
    have hle : s1.heap.objs.size ≤ c := by
      rcases e' with z | z | z
      · rw [z]; exact Nat.le_add_right _ _
      · rw [z]; exact Nat.le_add_right _ _
      · rw [z]; exact Nat.le_refl _
    exact I1.fpOk hle (I1.hok.fresh hle)
/-- a loop over the neighbours -/
theorem for_pw {K : PySem.W.Frag} {a : Addr} {xs : List V} {g : TG} {tb : TS} {D : Ends} {σ : L2.St} {H : Hp} (Pv : Nat → L2.St → Hp → Prop) (h0 : Pv 0 σ H) (hq : ∀ i σ H, Pv i σ H → SqL K H a xs ∧ ClI K H a xs)
    (hs : ∀ (i : Nat) (x y : V) (T : Addr) (σ : L2.St) (H : Hp), xs[i]? = some x → xs[i + 1]? = some y → Pv i σ H → H T = none → g (.ref T) σ (upd H T (.tup [x, y])) fun σ2 H2 => tb { D with nx := Pv (i + 1), ct := Pv (i + 1), bk := D.nx } σ2 H2) (hd : ∀ σ H, Pv (xs.length - 1) σ H → D.nx σ H) :
    ∃ W : Nat → Nat → L2.St → Hp → Prop, (∃ m, W 0 m σ H) ∧ ∀ i m σ H, W i m σ H →
      ((Itp K a xs).stop i H ∧ D.nx σ H) ∨ ((Itp K a xs).go i H ∧ ∃ N : L2.St → Hp → Prop, (∀ σ' H', N σ' H' → ∃ m', m' < m ∧ W (i + 1) m' σ' H') ∧ ∀ v H', (Itp K a xs).yld i H v H' → g v σ H' fun σ2 H2 => tb { D with nx := N, ct := N, bk := D.nx } σ2 H2) := by
  refine ⟨fun i m σ H => m = xs.length - 1 - i ∧ i ≤ xs.length - 1 ∧ Pv i σ H, ⟨_, rfl, Nat.zero_le _, h0⟩, ?_⟩
  rintro i m σ H ⟨rfl, hi, p⟩
  obtain ⟨qx, qc⟩ := hq i σ H p
  by_cases hlt : i + 1 < xs.length
  · refine .inr ⟨⟨qx, qc, hlt⟩, Pv (i + 1), fun σ' H' p' => ⟨xs.length - 1 - (i + 1), by omega, rfl, by omega, p'⟩, fun v H' y => ?_⟩
    obtain ⟨T, x', y', rfl, hT, rfl, f1, f2⟩ := y
    exact hs i x' y' T σ H f1 f2 p hT
  · have e : i = xs.length - 1 := by omega
    subst e
    exact .inl ⟨⟨qx, qc, by omega⟩, hd σ H p⟩
end RFI
end
-- part RLc
section
set_option Elab.async false
set_option linter.all false
set_option maxRecDepth 100000
set_option maxHeartbeats 2000000
/-! A list made by a comprehension out of another one's items, and its own objects known; append to it. -/
namespace RFI
open PySem PySem.Spec PyProof.Rows L2
/-- at a stands a list of xs whose items pairwise does not take for its mark -/
def clL (a : Addr) (xs : List V) : Heap → Prop := fun h => xs.length ≤ sizeLine ∧ ∃ (its : List Value) (n : Nat), Vals xs its ∧ h.get? a = some { cls := .type "list", data := .seq its.toArray n } ∧ ∀ v ∈ its, Cl v
theorem clL_ok {P : Program} {w : World} {H : Hp} {h : Heap} {a : Addr} {xs : List V} (x : clL a xs h) : ObjOk P w H h a (.ext (clL a xs)) := by
  obtain ⟨z, its, n, r, e, c⟩ := id x
  exact ⟨x, ⟨_, e⟩, fun h1 h2 ⟨z, its, n, r, e, c⟩ k => ⟨z, its, n, r, k _ e, c⟩⟩
/-- an expression whose value is such a one -/
structure PEc (X : Cx) (e : Expr) (t : TE) : Prop where
  run : ∀ (pins : List (Addr × Obj)) (s : Shared) (σ : L2.St) (H : Hp) (Q : VK), Inv X pins σ H s → t σ H Q → wpAny (model X.prog X.w) X.A (eval e X.env) (fun u s' => Cl u ∧ EP X pins σ Q u s') X.xe s
/-- not known by its object ahead of the def -/
def NF (X : Cx) (D : Addr) : Prop := ∀ o' u', X.H_0 D ≠ some (.frz o' u')
section
variable {X : Cx} {pins : List (Addr × Obj)} {σ : L2.St} {H : Hp} {s : Shared}
theorem nf_of {D : Addr} (I : Inv X pins σ H s) (h : H D = none) : NF X D := fun o' u' e => by
  have q := I.base.frzs D o' u' e
  rw [h] at q
  cases q
/-- from such a list to one that is known by its object -/
theorem settle {d : Addr} {xs : List V} (I : Inv X pins σ H s) (h : H d = some (.ext (clL d xs))) : ∃ od, ClO od ∧ Inv X pins σ (upd H d (.frz od (.lst xs))) s := by
  obtain ⟨⟨z, its, n, r, e, c⟩, _, _⟩ := I.hok d _ h
  refine ⟨_, ⟨its.toArray, n, rfl, by simpa using c⟩, I.write (x := d) (e := d) (t' := s.toks) (h' := s.heap) (by rw [h]; trivial) (.inl rfl) (fun b v _ q => q) ⟨_, e⟩ ⟨e, z, its, n, r, e⟩⟩
theorem app_cl {E : Value → Shared → Prop} {D : Addr} {xs : List V} {y : V} {v : Value} {Q : Value → Shared → Prop} (I : Inv X pins σ H s) (hD : H D = some (.ext (clL D xs))) (hz : xs.length < sizeLine) (r : RelV y v) (hc : Cl v)
    (h : ∀ s', Inv X pins σ (upd H D (.ext (clL D (xs ++ [y])))) s' → Q .none s') : wpAny (model X.prog X.w) X.A (call (.builtin "list.append") [.ref D, v]) Q E s := by
  obtain ⟨⟨hz', its, n, ri, e, c⟩, _, _⟩ := I.hok D _ hD
  have hl := ri.length
  refine append_at (hsz := by rw [List.size_toArray]; omega) e fun h' sb ho' => ?_
  refine h { s with heap := h' } (I.write (t' := s.toks) (by rw [hD]; trivial) (.inl rfl) (fun b u hb q => (sb.2 b hb).trans q) ⟨_, ho'⟩ (clL_ok ⟨by rw [List.length_append]; exact hz, its ++ [v], n + 1, ri.append (.cons r .nil), ?_, fun w hw => ?_⟩))
  · rw [ho']
    simp
  · rcases List.mem_append.mp hw with hw | hw
    · exact c w hw
    · rw [List.mem_singleton.mp hw]; exact hc
/-- xs[i] of such a list -/
def tIxC (K : PySem.W.Frag) (ta tb : TE) : TE := fun σ H Q => ta σ H fun x H1 => tb σ H1 fun y H2 => ∃ p xs i v, x = .ref p ∧ y = .int i ∧ SqL K H2 p xs ∧ ClAt K H2 p xs ∧ 0 ≤ i ∧ xs[i.toNat]? = some v ∧ Q v H2
theorem pec_ix {a b : Expr} {ta tb : TE} {pos : Pos} (ha : PE X a ta) (hb : PE X b tb) (hs : PlainIx b) : PEc X (.Subscript a b pos) (tIxC X.K ta tb) := by
  refine ⟨fun pins s σ H Q I h => ?_⟩
  refine Subscript_ (thn (ha.run pins s σ H _ I h) fun v s1 ⟨x, H1, I1, rx, q1⟩ => thn (hb.run pins s1 σ H1 _ I1 q1) fun u s2 ⟨y, H2, I2, ry, q2⟩ => ?_)
  obtain ⟨p, xs, i, z, rfl, rfl, hq, hc, h0, he, q⟩ := q2
  cases rx
  obtain ⟨t, rfl⟩ := ry
  obtain ⟨its, r, pl, cls⟩ := clean_list I2 hq hc
  obtain ⟨its2, r2, pl2, hz⟩ := I2.list hq
  obtain ⟨w, ew, rw'⟩ := r.get he
  have hl := r.length
  have hn := line63
  have hlt : i.toNat < xs.length := (List.getElem?_eq_some_iff.mp he).1
  exact item_listR pl.isList h0 (by omega) (by simpa using ew) ⟨cls w (List.mem_of_getElem? ew), z, H2, I2, rw', q⟩ (hs _ _)

/-- the comprehension -/
def tLcC (NFp : Addr → Prop) (wi : TI) (g : TG) (tt : TT) (te : TE) (vs : List Nat) : TE := fun σ H Q => wi σ H fun J H1 => ∀ D, H1 D = none → ∃ W : Nat → Nat → Hp → Prop, (∃ m, W 0 m (upd H1 D (.ext (clL D [])))) ∧ ∀ i m H, W i m H →
  (J.stop i H ∧ ∃ xs, H D = some (.ext (clL D xs)) ∧ ∀ o, ClO o → NFp D → Q (.ref D) (upd H D (.frz o (.lst xs)))) ∨ (J.go i H ∧ ∃ Nx : Hp → Prop, (∀ H', Nx H' → ∃ m', m' < m ∧ W (i + 1) m' H') ∧ ∀ x H', J.yld i H x H' → g x (wipe σ vs) H' fun σ2 H2 => wipe σ2 vs = wipe σ vs ∧ tt σ2 H2 fun b H3 =>
    if b = true then te σ2 H3 fun y H4 => ∃ acc, H4 D = some (.ext (clL D acc)) ∧ acc.length < sizeLine ∧ Nx (upd H4 D (.ext (clL D (acc ++ [y])))) else Nx H3)
theorem lc_coreC {Q : VK} {elt tg iter : Expr} {ifs : List Expr} {scope : Scope} {own : List (Str × Nat)} {pos pos' : Pos} {wi : TI} {g : TG} {tt : TT} {te : TE} {use : Option (Value → Sem Unit)} {Qf : Value → Shared → Prop}
    (hc : X.calm = true) (hN : X.N.Nodup) (I : Inv X pins σ H s) (hi : PI X tg iter wi) (ok : BlkOk X.N X.env.scope scope own)
    (hg : ∀ (s : Shared) (H : Hp) (C : Addr) (cl : List (Str × Addr)) (fp : List Addr), PG (X.blk s H scope (compEnvC scope cl C X.env) fp) tg g) (ht : ∀ (s : Shared) (H : Hp) (C : Addr) (cl : List (Str × Addr)) (fp : List Addr), PTs (X.blk s H scope (compEnvC scope cl C X.env) fp) ifs tt)
    (he : ∀ (s : Shared) (H : Hp) (C : Addr) (cl : List (Str × Addr)) (fp : List Addr), PEc (X.blk s H scope (compEnvC scope cl C X.env) fp) elt te) (hs : ∀ x, foldedSetIterable iter X.env x = pure x)
    (h : tLcC (NF X) wi g tt te (own.map (·.2)) σ H Q)
    (hRR : ∀ D C s' m H', Inv X pins σ H' s' → Q (.ref D) H' → s'.heap.Ns C m → FpOk X pins H' C → compPost (model X.prog X.w) X.A X.xe use Qf (.ref D) C (.ok .next) s') :
    wpAny (model X.prog X.w) X.A (comprehension (.ListComp elt [⟨tg, iter, ifs, 0⟩] scope pos) scope X.env pos' (newList []) false (eval iter X.env) use) Qf X.xe s := by
  have hfree : ∀ y ∈ scope.names, y.2 = .free → ∃ c, X.env.cells.lookup y.1 = some c := fun y hy e => by
    rcases ok.free y hy e with k | k
    · exact I.ok.has _ (.inl k)
    · exact I.ok.has _ (.inr k)
  refine wpAny_comprehension_free (use := use) rfl hs (closure_ok hfree) ok.kind (fun y hy e => by rw [ok.uniq y hy, e])
    (thn (hi.run pins s σ H _ I h) fun xv s1 hx => thn hx fun itv s2 h2 => ?_)
  obtain ⟨it, fp, tn, J, H2, e, I2, T, st2, f2, q⟩ := h2
  subst e
  refine wpAny_newObj_type (newEnv_comp ?_) (by show 0 ≤ sizeLine; decide)
  generalize hD : s2.heap.objs.size = D
  have hDn : H2 D = none := I2.hok.fresh (Nat.le_of_eq hD)
  have nf : NF X D := nf_of I2 hDn
  obtain ⟨W, ⟨m0, w0⟩, turn⟩ := q D hDn
  -- the new list
  generalize hs3 : ({ s2 with heap := s2.heap.push { cls := .type "list", data := .seq ([] : List Value).toArray } } : Shared) = s3
  have I3 : Inv X pins σ (upd H2 D (.ext (clL D []))) s3 := by
    rw [← hs3]
    refine I2.laid (t' := s2.toks) (fun b o e => Heap.get?_push_of_some _ e) (Nat.le_of_eq hD) (clL_ok ⟨Nat.zero_le _, [], 0, .nil, ?_, fun v hv => by cases hv⟩)
    rw [← hD]
    exact Heap.get?_push_size _ rfl
  have h3 : s3.heap = s2.heap.push { cls := .type "list", data := .seq ([] : List Value).toArray } := by rw [← hs3]
  have sz : ∀ b ∈ fp, b < s2.heap.objs.size := fun b hb => by
    obtain ⟨o, e, _⟩ := T.obj _ _ st2 b hb
    exact Heap.lt_size e
  have f3 : ∀ b ∈ fp, FpOk X pins (upd H2 D (.ext (clL D []))) b ∧ b < s3.heap.objs.size := fun b hb => by
    have hlt := sz b hb
    refine ⟨⟨?_, (f2 b hb).2⟩, by rw [h3, Heap.size_push]; exact Nat.lt_succ_of_lt hlt⟩
    rw [upd_ne (by rw [← hD]; exact Nat.ne_of_lt hlt)]
    exact (f2 b hb).1
  have st3 : tn 0 s3.heap := T.keep _ _ _ st2 fun b _ o e => by rw [h3]; exact Heap.get?_push_of_some _ e
  have I4 := block_start I3 ok hN f3
  have pg := hg s3 (upd H2 D (.ext (clL D []))) s3.heap.objs.size (cellsFrom (s3.heap.objs.size + 1) scope.names (cloFrom X.env.cells scope.names [])) fp
  have pt := ht s3 (upd H2 D (.ext (clL D []))) s3.heap.objs.size (cellsFrom (s3.heap.objs.size + 1) scope.names (cloFrom X.env.cells scope.names [])) fp
  have pe := he s3 (upd H2 D (.ext (clL D []))) s3.heap.objs.size (cellsFrom (s3.heap.objs.size + 1) scope.names (cloFrom X.env.cells scope.names [])) fp
  show codeAny _ _ (.compStart (.ListComp elt [⟨tg, iter, ifs, 0⟩] scope pos) 0 (.ref it) (.ref D) (compEnvC scope (cellsFrom (s3.heap.objs.size + 1) scope.names (cloFrom X.env.cells scope.names [])) s3.heap.objs.size X.env)) (compPost (model X.prog X.w) X.A X.xe use Qf (.ref D) s3.heap.objs.size) { s3 with heap := pushCells (s3.heap.push { cls := .type "dict", data := .dict #[] }) scope.names }
  have nfp : ∀ b ∈ fp, (upd H2 D (.ext (clL D []))) b = none := fun b hb => (f3 b hb).1.1
  generalize hce : compEnvC scope (cellsFrom (s3.heap.objs.size + 1) scope.names (cloFrom X.env.cells scope.names [])) s3.heap.objs.size X.env = ce at I4 pg pt pe ⊢
  have cL : ce.locals = s3.heap.objs.size := by subst hce; rfl
  generalize hH3 : upd H2 D (.ext (clL D [])) = H3 at I3 I4 pg pt pe w0 nfp f3
  generalize hs4 : ({ s3 with heap := pushCells (s3.heap.push { cls := .type "dict", data := .dict #[] }) scope.names } : Shared) = s4 at I4 ⊢
  have st4 : tn 0 s4.heap := T.keep _ _ _ st3 fun b _ o e => by rw [← hs4]; exact pushCells_keeps _ _ _ _ (Heap.get?_push_of_some _ e)
  have stat : ∀ {σ' : L2.St} {H' : Hp} {s' : Shared}, Inv (X.blk s3 H3 scope ce fp) [] σ' H' s' → (∀ b ∈ fp, H' b = none) → ∀ b ∈ fp, FpOk (X.blk s3 H3 scope ce fp) [] H' b := fun {σ' H' s'} I' hn b hb =>
    ⟨hn b hb, (I'.ok.exf b hb).1, I'.ok.exfs b hb, .inl hb, fun x c e => (I'.ok.exf b hb).2 x c e, fun p hp => absurd (show p ∈ ([] : List (Addr × Obj)) ++ [] from hp) (by simp)⟩
  have loop : codeAny (model X.prog X.w) X.A (.compLoop (.ListComp elt [⟨tg, iter, ifs, 0⟩] scope pos) 0 (.ref it) (.ref D) ce) (compPost (model X.prog X.w) X.A X.xe use Qf (.ref D) s3.heap.objs.size) s4 := by
    refine compLoop_any (fun n s' => ∃ i H', Inv (X.blk s3 H3 scope ce fp) [] (wipe σ (own.map (·.2))) H' s' ∧ tn i s'.heap ∧ (∀ b ∈ fp, H' b = none) ∧ W i n H') ?_ m0 ⟨0, H3, I4, st4, nfp, w0⟩
    rintro n s5 ⟨i, H5, I5, st5, n5, w5⟩
    rcases turn i n H5 w5 with ⟨stop, xs, hDx, qq⟩ | ⟨go, Nx, hNx, step⟩
    · have td := T.done (X.blk s3 H3 scope ce fp) rfl rfl rfl hc i [] s5 _ H5 (fun _ _ => False) I5 (stat I5 n5) st5 stop
      refine thnF td fun r s6 ⟨hr, I6⟩ => ?_
      subst hr
      -- back in the def's context
      have I7 : Inv X pins σ H5 s6 := I3.call' (ch := fp) I6.os I6.base I6.hok I6.bare fun b hb => ⟨(f3 b hb).1.2.2.2.1, (f3 b hb).1.2.1, (f3 b hb).1.2.2.2.2.1, (f3 b hb).1.2.2.2.2.2⟩
      have nC : H5 s3.heap.objs.size = none := by
        have z : H5 ce.locals = none := I6.free
        rw [cL] at z
        exact z
      obtain ⟨m, hn, _⟩ := I6.loc
      have hn : s6.heap.Ns ce.locals m := hn
      rw [cL] at hn
      obtain ⟨od, cod, I8⟩ := settle I7 hDx
      have nCD : s3.heap.objs.size ≠ D := fun z => by rw [z, hDx] at nC; cases nC
      exact hRR D s3.heap.objs.size s6 m _ I8 (qq od cod nf) hn (I3.fpOk (Nat.le_refl _) (by rw [upd_ne nCD]; exact nC))
    · have ti := T.item (X.blk s3 H3 scope ce fp) rfl rfl rfl hc i [] s5 _ H5 (fun _ _ => False) I5 (stat I5 n5) st5 go
      refine thnF ti fun r s6 ⟨u, hr, h6⟩ => ?_
      subst hr
      refine thnF h6 fun _ s7 ⟨x, H7, I7, r7, y7, st7, n7⟩ => ?_
      have I7' := I7.pinned (stat I7 n7) (T.obj _ _ st7)
      refine thnF (pg.run _ s7 _ H7 x u _ I7' r7 (step x H7 y7)) fun _ s8 ⟨σ8, H8, I8, hw8, q8⟩ => ?_
      refine thnF (pt.run _ s8 σ8 H8 _ I8 q8) fun b s9 ⟨H9, I9, q9⟩ => ?_
      -- the turn's end
      have fin : ∀ {s' : Shared} {H' : Hp}, Inv (X.blk s3 H3 scope ce fp) ([] ++ pinsAt fp s7.heap) σ8 H' s' → Nx H' → ∃ m, m < n ∧ ∃ i H', Inv (X.blk s3 H3 scope ce fp) [] (wipe σ (own.map (·.2))) H' s' ∧ tn i s'.heap ∧ (∀ b ∈ fp, H' b = none) ∧ W i m H' := fun {s' H'} I' nx => by
        obtain ⟨m', hm, w'⟩ := hNx H' nx
        have pin' : ∀ b ∈ fp, ∀ o, s7.heap.get? b = some o → s'.heap.get? b = some o ∧ H' b = none := fun b hb o e =>
          let z := I'.pin (b, o) (List.mem_append_right _ (List.mem_append_right _ (mem_pinsAt hb e)))
          ⟨z.1, z.2.1⟩
        have hl : (wipe σ (own.map (·.2))).length = σ8.length := by rw [← hw8, wipe_length]
        refine ⟨m', hm, i + 1, H', (I'.unpinned (pins := [])).weak hl (fun j v e => ?_), T.keep _ _ _ st7 fun b hb o e => (pin' b hb o e).1, fun b hb => ?_, w'⟩
        · rw [← hw8] at e
          exact (wipe_some e).1
        · obtain ⟨o, e, _⟩ := T.obj _ _ st7 b hb
          exact (pin' b hb o e).2
      cases b with
      | false =>
        simp only [Bool.false_eq_true, if_false] at q9 ⊢
        exact fin I9 q9
      | true =>
        simp only [if_true] at q9 ⊢
        refine thnF (pe.run _ s9 σ8 H9 _ I9 q9) fun z s10 ⟨zc, yv, H10, I10, r10, acc, hD10, hz10, nx⟩ => ?_
        exact app_cl (X := X.blk s3 H3 scope ce fp) I10 hD10 hz10 r10 zc fun s11 I11 => fin I11 nx
  exact codeAny_compStart_list loop (T.self X.A 0 _ _ _ st4 loop)
theorem ps_setLcC {i : Nat} {y : Str} {py : Pos} {elt tg iter : Expr} {ifs : List Expr} {scope : Scope} {own : List (Str × Nat)} {pos spos : Pos} {wi : TI} {g : TG} {tt : TT} {te : TE} (hc : X.calm = true) (hN : X.N.Nodup) (hy : X.N[i]? = some y) (hyl : X.env.scope.names.lookup y = some .local)
    (hsw : swapsWith (.ListComp elt [⟨tg, iter, ifs, 0⟩] scope pos) (some (.Name y py)) spos.line X.env = pure true) (hi : PI X tg iter wi) (ok : BlkOk X.N X.env.scope scope own)
    (hg : ∀ (s : Shared) (H : Hp) (C : Addr) (cl : List (Str × Addr)) (fp : List Addr), PG (X.blk s H scope (compEnvC scope cl C X.env) fp) tg g) (ht : ∀ (s : Shared) (H : Hp) (C : Addr) (cl : List (Str × Addr)) (fp : List Addr), PTs (X.blk s H scope (compEnvC scope cl C X.env) fp) ifs tt)
    (he : ∀ (s : Shared) (H : Hp) (C : Addr) (cl : List (Str × Addr)) (fp : List Addr), PEc (X.blk s H scope (compEnvC scope cl C X.env) fp) elt te) (hs : ∀ x, foldedSetIterable iter X.env x = pure x := by intro _; rfl) :
    PS X (.Assign [.Name y py] (.ListComp elt [⟨tg, iter, ifs, 0⟩] scope pos) spos) (tAsg (tLcC (NF X) wi g tt te (own.map (·.2))) (gName i)) := by
  refine ⟨fun pins s σ H D I h => ?_⟩
  rw [exec_Assign_Name_used _ _ _ _ hsw]
  refine wpAny_bind (wpAny_standAt (wpAny_bind ?_))
  show wpAny _ X.A (do let _ ← comprehension (.ListComp elt [⟨tg, iter, ifs, 0⟩] scope pos) scope X.env (firstIterPos [⟨tg, iter, ifs, 0⟩] pos) (newList []) false (eval iter X.env) (some (assign (.Name y py) X.env))) _ _ s
  have h : tLcC (NF X) wi g tt te (own.map (·.2)) σ H (fun x H1 => gName i x σ H1 D.nx) := h
  refine wpAny_bind (thn (lc_coreC (Qf := fun _ s' => SP X pins D .next s') hc hN I hi ok hg ht he hs h fun L C s' m H' I' q hn f => ?_) fun _ s' hq => wpAny_pure (wpAny_pure hq))
  show wpAny _ _ (assign (.Name y py) X.env (.ref L)) _ _ _
  refine wpAny_assign_Name (store_ok2 (v := V.ref L) I' hN hy (.inl hyl) rfl (fun s2 I2 ⟨a, sb, ha⟩ => ?_) (.inr hyl))
  obtain ⟨f0, f1, f2, f3, f4, f5⟩ := f
  have haC : C ≠ a := by
    rcases ha with z | z
    · rw [z]; exact f1
    · exact fun e => f4 y a z e.symm
  refine ⟨m, hn.sameBut sb haC, fun h3 sb3 => ?_⟩
  exact ⟨_, H', I2.turned (t' := s2.toks) (fun b o hb e => (sb3.2 b hb).trans e) f0 f1 f3 f4 f5, q⟩
/-- .append of a whole number other than 0 to a list known by its object -/
def rAppC (NFp : Addr → Prop) : V → List V → Hp → VK → Prop := fun x vs H Q => ∃ l xs k o, x = .ref l ∧ vs = [.int k] ∧ k ≠ 0 ∧ H l = some (.frz o (.lst xs)) ∧ ClO o ∧ NFp l ∧ xs.length < sizeLine ∧ ∀ o', ClO o' → Q .non (upd H l (.frz o' (.lst (xs ++ [.int k]))))
theorem mt_appC : MtR X "list.append" (rAppC (NF X)) := by
  intro pins s σ H x vs v us Q I rx rv h
  obtain ⟨l, xs, k, o, rfl, rfl, hk, hH, ⟨its0, n0, hd0, c0⟩, nf, hz, q⟩ := h
  cases rx
  obtain ⟨u, rfl, ru⟩ := rv.one
  obtain ⟨e0, z0, its, n, r, e⟩ := I.hok l _ hH
  have hit : its0 = its.toArray := by
    rw [e0] at e
    have e' := Option.some.inj e
    rw [e'] at hd0
    injection hd0 with h1 _
    exact h1.symm
  have I1 : Inv X pins σ (upd H l (.lst xs)) s := I.unlock hH nf
  have I2 : Inv X pins σ (upd (upd H l (.lst xs)) l (.ext (clL l xs))) s :=
    I1.write (x := l) (e := l) (t' := s.toks) (h' := s.heap) (by rw [upd_same]; trivial) (.inl rfl) (fun b v _ q => q) ⟨_, e⟩ (clL_ok ⟨z0, its, n, r, e, fun v hv => c0 v (by rw [hit]; simpa using hv)⟩)
  rw [upd_upd] at I2
  refine app_cl I2 upd_same hz ru (cl_int ru fun z => hk (by injection z)) fun s' I3 => ?_
  rw [upd_upd] at I3
  obtain ⟨od, cod, I4⟩ := settle I3 upd_same
  rw [upd_upd] at I4
  exact ⟨.non, _, I4, rfl, q od cod⟩
end
end RFI
end
-- part RGen
section
set_option Elab.async false
set_option linter.all false
set_option maxRecDepth 100000
set_option maxHeartbeats 1000000
/-! all(f(x) for x in xs), xs a list, f a quiet def of one return; the def that tells whether a value is a whole number. -/
namespace RFI
open PySem PySem.Spec PyProof.Rows L2

/-! ### a def of one return, whose value is told and which changes nothing -/
section
variable {P : Program} {w : World} {K : PySem.W.Frag} {mg : Str → Option Value} {A : Around} {E : Value → Shared → Prop} {s : Shared}
theorem quiet_call {x qual p : Str} {st : Stmt} {f : Addr} {fd : FuncData} {e : Expr} {rpos : Pos} {v y : Value} (F : Fun K x qual st f fd) (S : FnScope [p] [p] (defScope st)) (hpl : (defScope st).names.lookup p = some .local) (hst : defBody st = [.Return (some e) rpos]) (hb : Binds K fd [p] [])
    (hdep : A.depth < recursionLimit) (KX : K.In s.heap) (lim : s.heap.NoLimit)
    (he : ∀ (env : Env) (E' : Value → Shared → Prop) (s1 : Shared) (m : Str → Option Value), env.scope = defScope st → env.globals = mainGlobals → env.builtins = builtinsNs → Keeps s s1 → s1.heap.Ns env.locals m → m p = some v → wpAny (model P w) (A.deeper env) (eval e env) (fun u s2 => u = y ∧ Keeps s s2) E' s1) :
    wpAny (model P w) A (call (.ref f) [v]) (fun u s2 => u = y ∧ Keeps s s2) E s := by
  obtain ⟨oc, od, kV, doc, pm, an, cdv, ct, osl, rfl, lk, hcd⟩ := F.ex
  have hb1 := hb s [v] KX rfl
  have hkind : ∀ z ∈ [(p, v)], (defScope st).names.lookup z.1 = some .local ∨ ((defScope st).names.lookup z.1 = some .cell ∧ ((cellsFrom (s.heap.objs.size + 1) (defScope st).names []).lookup z.1).isSome = true) := fun z hz => by
    rw [List.mem_singleton.mp hz]
    exact .inl hpl
  refine wpAny_call (codeAny_call_function hdep (KX _ _ lk) rfl S.co S.gen rfl (PySem.W.codeRec_of KX hcd) (hb1 _ _ _ _ ?_))
  refine wpAny_newFunctionEnv_cells S.kind hkind fun env he' s1 xx => ?_
  subst he'
  refine ⟨lim.keeps xx.toInCall.keep, codeAny_func ?_⟩
  obtain ⟨h1, tk, rfl, hk⟩ := xx.done
  show wpAny _ _ (execs (defBody st) _) _ _ _
  rw [hst]
  refine wpAny_execs_cons (wpAny_Return_some ?_)
  refine wpAny_mono (he _ _ _ _ rfl rfl rfl ⟨h1, tk, rfl, hk⟩ xx.toInCall.ns ?_) (fun u s2 r => r) fun _ _ z => z
  exact L2.bindL_get (i := 0) (P := [p]) (vs := [v]) (by simp) rfl rfl hpl
/-- whether a value is a whole number -/
theorem quiet_isw {st : Stmt} {f : Addr} {fd : FuncData} {v t : Value} {Hh : Heap → Prop} {b1 b2 : Bool} {r1 r2 r3 r4 r5 r6 r7 r8 r9 r10 r11 : Pos} (F : Fun K "is_whole" "is_whole" st f fd) (S : FnScope ["value"] ["value"] (defScope st))
    (hpl : (defScope st).names.lookup (Str.ofString "value") = some .local) (g1 : (defScope st).names.lookup (Str.ofString "isinstance") = some .globalImplicit) (g2 : (defScope st).names.lookup (Str.ofString "int") = some .globalImplicit) (g3 : (defScope st).names.lookup (Str.ofString "bool") = some .globalImplicit)
    (hst : defBody st = [.Return (some (.BoolOp .And [.Call (.Name "isinstance" r1) [.Name "value" r2, .Name "int" r3] [] r4, .UnaryOp .Not (.Call (.Name "isinstance" r5) [.Name "value" r6, .Name "bool" r7] [] r8) r9] r10)) r11]) (hb : Binds K fd ["value"] [])
    (hdep : A.depth < recursionLimit) (KX : K.In s.heap) (lim : s.heap.NoLimit) (hg : s.heap.Ns mainGlobals mg) (hbl : ∃ mb, s.heap.Ns builtinsNs mb ∧ ∀ x : Str, x ≠ "__name__" → mb x = bootBuiltins x)
    (m1 : mg "isinstance" = none) (m2 : mg "int" = none) (m3 : mg "bool" = none) (Z : PySem.W.KitX K v t Hh) (pst : ∀ h' : Heap, (∀ c o, s.heap.get? c = some o → h'.get? c = some o) → Hh h') (hv : v ≠ .builtin "__main__.__loader__#opaque")
    (e1 : PySem.W.kitOne K t (.type "int") = some b1) (e2 : PySem.W.kitOne K t (.type "bool") = some b2) :
    wpAny (model P w) A (call (.ref f) [v]) (fun u s2 => u = .bool (b1 && !b2) ∧ Keeps s s2) E s := by
  refine quiet_call F S hpl hst hb hdep KX lim fun env E' s1 m hsc hgl hbt k1 hn hm => ?_
  obtain ⟨mb, hmb, hmb2⟩ := hbl
  have hk : env.scope.kind = .function := by rw [hsc]; exact S.kind
  -- a built-in's name
  have blt : ∀ {x : Str} {u : Value} {p : Pos} {Q : Value → Shared → Prop} {A' : Around} {E'' : Value → Shared → Prop} (s' : Shared), Keeps s s' → env.scope.names.lookup x = some .globalImplicit → mg x = none → bootBuiltins x = some u → x ≠ "__name__" → (x == ("__debug__" : Str)) = false → Q u s' → wpAny (model P w) A' (eval (.Name x p) env) Q E'' s' := by
    intro x u p Q A' E'' s' k hx hmx hbx hn' hd hq
    obtain ⟨h', tk, rfl, kp⟩ := k
    exact Calls.Name_function_global hk hx (Calls.loadGlobal_builtin (by rw [hgl]; exact hg.keeps kp) hmx (by rw [hbt]; exact hmb.keeps kp) ((hmb2 x hn').trans hbx) hq) hd
  -- isinstance(value, T)
  have isi : ∀ {T : Str} {tn : String} {b : Bool} {p1 p2 p3 p4 : Pos} {Q : Value → Shared → Prop} (s' : Shared), Keeps s s' → s'.heap.Ns env.locals m → env.scope.names.lookup T = some .globalImplicit → mg T = none → bootBuiltins T = some (.type tn) → T ≠ "__name__" → (T == ("__debug__" : Str)) = false →
      PySem.W.kitOne K t (.type tn) = some b → (∀ s2, Keeps s s2 → s2.heap.Ns env.locals m → Q (.bool b) s2) → wpAny (model P w) (A.deeper env) (eval (.Call (.Name "isinstance" p1) [.Name "value" p2, .Name T p3] [] p4) env) Q E' s' := by
    intro T tn b p1 p2 p3 p4 Q s' k hn' hT hmT hbT hT2 hT3 hk1 hq
    refine wpAny_Call_Name_kw (blt s' k (by rw [hsc]; exact g1) m1 boot_isinstance (by decide) (by decide) ?_)
    refine PyProof.Rows.callWith_builtin1 ?_ (by rfl) (by rfl)
    show wpAny _ _ (spliced ((false, eval (.Name "value" p2) env) :: (false, eval (.Name T p3) env) :: [])) _ _ s'
    refine Calls.spliced_cons (wpAny_Name (wpAny_loadName_local hk (show env.scope.names.lookup (Str.ofString "value") = some .local by rw [hsc]; exact hpl) hn' hm ?_) (by decide))
    refine Calls.spliced_cons (blt s' k hT hmT hbT hT2 hT3 (Calls.spliced_nil ?_))
    obtain ⟨h', tk, rfl, kp⟩ := k
    exact PySem.W.kia_one Z (KX.keeps kp) (pst h' kp) hk1 hv fun tk2 => hq _ ⟨h', tk2, rfl, kp⟩ hn'
  refine BoolOp_and (isi s1 k1 hn (by rw [hsc]; exact g2) m2 (by decide +kernel) (by decide) (by decide) e1 fun s2 k2 hn2 => ?_)
  refine wpAny_truthy_bool ?_
  cases b1 with
  | false => exact ⟨rfl, k2⟩
  | true =>
    refine BoolOp_one (UnaryOp_ (isi s2 k2 hn2 (by rw [hsc]; exact g3) m3 (by decide +kernel) (by decide) (by decide) e2 fun s3 k3 hn3 => ?_))
    refine not_of (wpAny_truthy_bool ?_)
    exact ⟨by simp, k3⟩
end

/-! ### all(elt for x in xs) -/
/-- the element of v is the truth b, wherever the heap hp but for P is kept -/
def EltQ (prog : Program) (w : World) (scope : Scope) (x : Str) (elt : Expr) (cl : List (Str × Addr)) (D U : Nat) (hp : Heap) (P : Addr) (v : Value) (b : Bool) : Prop :=
  ∀ (cenv : Env) (A' : Around) (E' : Value → Shared → Prop) (s₂ : Shared) (m₂ : Str → Option Value), cenv.scope = scope → cenv.globals = mainGlobals → cenv.cells = cl → A'.handled = none → A'.depth ≤ D → A'.units ≤ U →
    (∀ c o, c ≠ P → hp.get? c = some o → s₂.heap.get? c = some o) → s₂.heap.Ns cenv.locals m₂ → m₂ x = some v → wpAny (model prog w) A' (eval elt cenv) (fun y s₃ => y = .bool b ∧ Keeps s₂ s₃) E' s₂
section
variable {X : Cx} {pins : List (Addr × Obj)} {σ : L2.St} {H : Hp} {s : Shared}
theorem all_lst {c P : Addr} {elt iter : Expr} {x : Str} {px gpos p pos : Pos} {scope : Scope} {te : TE} {k : Nat} {Q : VK} {Ok : Hp → V → Bool → Prop}
    (hr : Room k X.A) (hg : Gl X "all") (hm : X.mg "all" = none) (TB : GxR.TabB X.base X.mg c P) (hcode : X.env.code = .ref c) (S : GxR.GenS X.env scope x) (hi : PE X iter te)
    (hel : ∀ (s1 : Shared) (H1 : Hp) (y : V) (v : Value) (b : Bool), Inv X pins σ H1 s1 → GxR.TabG H1 P → RelV y v → Ok H1 y b → EltQ X.prog X.w scope x elt (cloFrom X.env.cells scope.names []) (X.A.depth + 1) (X.A.units + 8) s1.heap P v b)
    (hs : ∀ v, genFold iter X.env v = pure v) (I : Inv X pins σ H s)
    (h : te σ H fun v H1 => ∃ (yl : Addr) (xs : List V) (bs : List Bool), v = .ref yl ∧ SqL X.K H1 yl xs ∧ GxR.TabG H1 P ∧ bs.length = xs.length ∧ (∀ (i : Nat) (y : V) (b : Bool), xs[i]? = some y → bs[i]? = some b → Ok H1 y b) ∧ ∀ H2, GxR.Tabbed P H1 H2 → Q (.bl (bs.all id)) H2)
    (he : starEach [.GeneratorExp elt [⟨.Name x px, iter, [], 0⟩] scope gpos] X.env = (false, eval (.GeneratorExp elt [⟨.Name x px, iter, [], 0⟩] scope gpos) X.env) :: starEach [] X.env) :
    wpAny (model X.prog X.w) X.A (eval (.Call (.Name "all" p) [.GeneratorExp elt [⟨.Name x px, iter, [], 0⟩] scope gpos] [] pos) X.env) (EP X pins σ Q) X.xe s := by
  refine wpAny_Call_Name_kw (ld_blt (u := .builtin "all") I hg hm (by decide +kernel) ?_)
  refine PyProof.Rows.callWith_builtin1 ?_ he (by rfl)
  rw [he]
  show wpAny _ _ (spliced ((false, eval (.GeneratorExp elt [⟨.Name x px, iter, [], 0⟩] scope gpos) X.env) :: backTo pos (starEach [] X.env))) _ _ s
  refine Calls.spliced_cons ?_
  refine wpAny_GeneratorExp_walksQD hr.hd S.co (closure_ok S.free) S.cell S.dot S.loc S.kind (by have := hr.dp; omega) ?_ hs
  refine thn (hi.run pins s σ H _ I h) fun xv s1 ⟨v, H1, I1, r1, q1⟩ => ?_
  obtain ⟨yl, xs, bs, rfl, hyl, ⟨ps, hP, ht⟩, hbl, hok, q1⟩ := q1
  obtain rfl : xv = Value.ref yl := r1
  obtain ⟨its, rv, hl, hz⟩ := I1.list hyl
  have hIL := hl.isList
  have hlen : its.length = xs.length := rv.length.symm
  have hat : ∀ (i : Nat) (v : Value), its.toArray[i]? = some v → ∃ (y : V) (b : Bool), xs[i]? = some y ∧ bs[i]? = some b ∧ RelV y v := fun i v hv => by
    have hv2 : its[i]? = some v := by simpa using hv
    have hi2 : i < its.length := (List.getElem?_eq_some_iff.mp hv2).1
    have hy : xs[i]? = some xs[i] := List.getElem?_eq_getElem (by omega)
    obtain ⟨u, hu, ru⟩ := rv.get hy
    rw [hv2] at hu
    cases hu
    exact ⟨_, bs[i], hy, List.getElem?_eq_getElem (by omega), ru⟩
  refine wpAny_pyIter_list hIL ?_
  generalize ho : ({ cls := .type "list_iterator", data := .fields #[.ref yl, .int 0 0] } : Obj) = o
  have hitr : (s1.heap.push o).IsListIter s1.heap.objs.size yl 0 := by
    subst ho
    exact ⟨_, Heap.get?_push_size _ rfl, rfl, rfl⟩
  have hylt : yl < s1.heap.objs.size := by
    obtain ⟨_, e, _⟩ := _root_.id hIL
    exact Heap.lt_size e
  have hPs : s1.heap.get? P = some { cls := .none, data := .fields ps } := I1.hok P _ hP
  have hPlt : P < s1.heap.objs.size := Heap.lt_size hPs
  have hP2 : (s1.heap.push o).get? P = some { cls := .none, data := .fields ps } := Heap.get?_push_of_some _ hPs
  have cd : PySem.W.CodeHd (s1.heap.push o) c P := TB.code.keeps fun b u e => Heap.get?_push_of_some _ (I1.bk b u e)
  have lim2 : (s1.heap.push o).NoLimit := I1.nolimit.push o
  have cont : ∀ (code : Value) (h3 : Heap) (tk : Nat) (ps' : Array Value), Heap.ExtBut P (s1.heap.push o) h3 → (s1.heap.push o).objs.size ≤ h3.objs.size → h3.get? P = some { cls := .none, data := .fields ps' } → (∃ more, ps' = ps ++ more) → TriplesOk ps'.toList →
      wpAny (model X.prog X.w) X.A (builtinsFor X.env.globals X.env.builtins) (fun bi s₄ =>
        ∃ Ia fp wr n₀ Pf St₀ pz F, Value.ref s1.heap.objs.size = .ref Ia ∧ (∀ A' : Around, A'.handled = none → Walks X.prog X.w A' Ia fp wr n₀ Pf St₀) ∧ St₀ 0 s₄.heap ∧ (∀ b ∈ fp, b < s₄.heap.objs.size) ∧ s₄.heap.NoLimit ∧ cStatics ∉ wr ∧
          (∀ href : Heap, (∀ b o, s₄.heap.get? b = some o → href.get? b = some o) →
            QuietGenD X.prog X.w (genEnv scope (cloFrom X.env.cells scope.names []) s₄.heap.objs.size code bi X.env) x [] elt (List.range s₄.heap.objs.size) wr Pf pz F href (X.A.depth + 1) (X.A.units + 8)) ∧
          (∀ a h₅ tk gs, gs.bare = true → s₄.heap.objs.size < a → h₅.objs.size = a + 1 → (∀ b o, s₄.heap.get? b = some o → h₅.get? b = some o) →
            WalksS X.prog X.w X.A.in4 a (a :: s₄.heap.objs.size :: List.range s₄.heap.objs.size) (s₄.heap.objs.size :: wr) (GenOnlyQ s₄.gens.size) (passing pz n₀ 0).length
              (fun j y => ∃ i, (passing pz n₀ 0)[j]? = some i ∧ F i y) (GenAt X.prog X.w X.A.in4 a s₄.gens.size s₄.heap.objs.size (List.range s₄.heap.objs.size) wr pz n₀ F) →
            GenAt X.prog X.w X.A.in4 a s₄.gens.size s₄.heap.objs.size (List.range s₄.heap.objs.size) wr pz n₀ F 0 { s₄ with gens := s₄.gens.push gs, toks := tk, heap := h₅ } →
            wpAny (model X.prog X.w) X.A (spliced (backTo pos (starEach [] X.env))) (fun vs s₁ => wpAny (model X.prog X.w) X.A (call (.builtin "all") (.ref a :: vs)) (EP X pins σ Q) X.xe s₁) X.xe { s₄ with gens := s₄.gens.push gs, toks := tk, heap := h₅ })) X.xe { s1 with heap := h3, toks := tk } := by
    intro code h3 tk ps' hx hsz hP3 hmore ht3
    obtain ⟨bm, ob, e1, e2, e3, e4, e5, e6, e7, e8⟩ := TB.bm
    have hcP : cStatics ≠ P := fun e => by
      obtain ⟨_, hns, _⟩ := I1.nolimit
      obtain ⟨o', es, ep, ho, hd, _⟩ := hns
      rw [e, hPs] at ho
      cases ho
      cases hd
    have hcl : cStatics < s1.heap.objs.size := let ⟨_, hns, _⟩ := I1.nolimit; hns.lt
    have sz2 : (s1.heap.push o).objs.size = s1.heap.objs.size + 1 := Heap.size_push ..
    have keep3 : ∀ b u, b ≠ P → s1.heap.get? b = some u → h3.get? b = some u := fun b u hb e => hx b u hb (Heap.get?_push_of_some _ e)
    refine wpAny_builtinsFor (m := X.mg) (by rw [I1.ok.glob]; exact ((I1.mod.glob.keeps I1.bk).push o).extBut hx TB.gP) e1 e2 (keep3 _ _ e4 (I1.bk _ _ e5)) e6 e7 e8 ?_
    have hylP : yl ≠ P := fun z => by
      obtain ⟨_, e, hc1, _, hd1⟩ := _root_.id hIL
      rw [z, hPs] at e
      cases e
      cases hd1
    have hIL3 : h3.IsList yl its.toArray := by
      obtain ⟨ob, e, r⟩ := _root_.id hIL
      exact ⟨ob, keep3 _ _ hylP e, r⟩
    have hItr3 : h3.IsListIter s1.heap.objs.size yl 0 := hitr.at fun u e => hx _ u (Nat.ne_of_gt hPlt) e
    refine ⟨s1.heap.objs.size, [s1.heap.objs.size, yl], [s1.heap.objs.size], its.toArray.size, (fun i v => its.toArray[i]? = some v), (fun i h => h.IsListIter s1.heap.objs.size yl i ∧ h.IsList yl its.toArray), (fun _ => true),
      (fun i y => ∃ b, bs[i]? = some b ∧ y = .bool b), rfl, (fun A' hA => Walks.list hA _ _ (Nat.ne_of_lt hylt) _), ⟨hItr3, hIL3⟩, ?_, lim2.extBut hx hcP, ?_, ?_, ?_⟩
    · intro b hb
      rcases List.mem_cons.mp hb with z | z
      · rw [z]
        show s1.heap.objs.size < h3.objs.size
        omega
      · rcases List.mem_cons.mp z with z | z
        · rw [z]
          have e9 : s1.heap.objs.size ≤ h3.objs.size := by omega
          exact Nat.lt_of_lt_of_le hylt e9
        · cases z
    · intro z
      rcases List.mem_cons.mp z with z | z
      · exact Nat.ne_of_lt hcl z
      · cases z
    · intro href hhref
      have hhref : ∀ b o, h3.get? b = some o → href.get? b = some o := hhref
      refine ⟨fun A' E' i v s₂ m₂ hA _ _ hPv hn hm hk => ?_, fun A' E' i v s₂ m₂ hA hAd hAu hPv hp hn hm hk => ?_⟩
      · simp only [List.forIn_nil]
        exact wpAny_pure ⟨rfl, GxR.keeps_refl _⟩
      · obtain ⟨y, b, hy, hb, ry⟩ := hat i v hPv
        refine wpAny_mono (hel s1 H1 y v b I1 ⟨ps, hP, ht⟩ ry (hok i y b hy hb) _ A' E' s₂ m₂ rfl I1.ok.glob rfl hA hAd hAu (fun c1 o1 hc1 e1 => ?_) hn hm) (fun y s3 r => ?_) fun _ _ e => e
        · have h31 : h3.get? c1 = some o1 := keep3 _ _ hc1 e1
          have hlt1 : c1 < s1.heap.objs.size := Heap.lt_size e1
          refine hk c1 (List.mem_range.mpr (Heap.lt_size h31)) (fun z => ?_) o1 (hhref _ _ h31)
          rcases List.mem_cons.mp z with z | z
          · exact Nat.ne_of_lt hlt1 z
          · cases z
        · exact ⟨⟨b, hb, r.1⟩, r.2⟩
    · intro g h5 tk5 gs hgb hag hsz5 hk5 W5 hgat
      simp only [GxR.passing_true, List.length_range] at W5
      have hn5 : its.toArray.size = bs.length := by rw [List.size_toArray, hlen, hbl]
      rw [hn5] at W5 hgat
      refine Calls.spliced_nil ?_
      refine call_all_walkS (W5.in4_1.self 0 _ _ _ hgat ⟨g, _, _, _, bs.length, _, _, (fun j => bs.getD j true), rfl, W5.in4_1, hgat, ?_, fun s' hmv => ?_⟩)
      · intro j y sj Qj Ej hy hQj
        obtain ⟨i, hij, b, hb, rfl⟩ := hy
        obtain ⟨hj, ej⟩ := List.getElem?_eq_some_iff.mp hij
        rw [List.getElem_range] at ej
        subst ej
        have hQ2 : Qj (bs.getD j true) sj := hQj
        rw [List.getD_eq_getElem?_getD, hb] at hQ2
        exact wpAny_truthy_bool hQ2
      · obtain ⟨more, em⟩ := hmore
        have nwr : ∀ b u, s1.heap.get? b = some u → b ∉ h3.objs.size :: [s1.heap.objs.size] := fun b u e hb => by
          have hl := Heap.lt_size e
          rcases List.mem_cons.mp hb with z | z
          · rw [z] at hl
            have h9 : (h3.objs.size : Nat) < s1.heap.objs.size := hl
            omega
          · rcases List.mem_cons.mp z with z | z
            · rw [z] at hl
              exact Nat.lt_irrefl _ hl
            · cases z
        have J := GxR.inv_tab (more := more) (h' := s'.heap) (g' := s'.gens) (d' := s'.drawn) (t' := s'.toks) I1 hP (fun b u hb e => hmv.heap b u (nwr b u e) (hk5 b u (keep3 b u hb e)))
          (by rw [← em]; exact hmv.heap P _ (nwr P _ hPs) (hk5 P _ hP3)) (AllBare.movedS (I1.bare.push hgb) hmv)
        rw [GxR.sh_eta s1 s' hmv.os] at J
        have eall : (List.range bs.length).all (fun j => bs.getD j true) = bs.all id := by
          rw [Bool.eq_iff_iff, List.all_eq_true, List.all_eq_true]
          constructor
          · intro h b hb
            obtain ⟨j, hj, e⟩ := List.getElem_of_mem hb
            have q := h j (List.mem_range.mpr hj)
            rw [List.getD_eq_getElem?_getD, List.getElem?_eq_getElem hj, e] at q
            exact q
          · intro h j hj
            have hj' := List.mem_range.mp hj
            rw [List.getD_eq_getElem?_getD, List.getElem?_eq_getElem hj']
            exact h _ (List.getElem_mem hj')
        rw [eall]
        exact ⟨.bl _, upd H1 P (.tbl (ps ++ more)), J, rfl, q1 _ ⟨⟨ps ++ more, upd_same, by rw [← em]; exact ht3⟩, fun b hb => upd_ne hb⟩⟩
  refine ⟨lim2, ?_⟩
  cases hf : codeAmong gpos ps.toList with
  | none =>
    refine wpAny_genexprCodeX hcode (cd.code hP2 ht) (cd.tab hP2) hf fun c' h' tk hx hge hlt hco' _ htab' _ => ?_
    obtain ⟨o1, vs, f1, tf, fl, tg, inF, tx, tt, op, _, _, _, _, _, _, _, _, _, htr, _⟩ := hco'
    exact cont _ h' tk _ hx (Nat.le_trans hge (Nat.le_of_lt hlt)) htab'.2 ⟨_, rfl⟩ htr
  | some cv =>
    refine wpAny_genexprCode_hit hcode (cd.code hP2 ht) hf ?_
    exact cont cv (s1.heap.push o) s1.toks ps (Heap.ExtBut.refl _ _) (Nat.le_refl _) hP2 ⟨#[], by simp⟩ ht
end

/-! ### all(is_whole(value) for value in xs) -/
/-- a value's type, of the kinds that a row may hold -/
inductive TyS (H : Hp) : V → Value → Prop where
  | non : TyS H .non (.type "NoneType")
  | bl (x : Bool) : TyS H (.bl x) (.type "bool")
  | int (i : Int) : TyS H (.int i) (.type "int")
  | str (x : Str) : TyS H (.str x) (.type "str")
  | flt (x : UInt64) : TyS H (.flt x) (.type "float")
  | byt (b : Array UInt8) : TyS H (.byt b) (.type "bytes")
  | lst {a : Addr} {xs : List V} (e : H a = some (.lst xs)) : TyS H (.ref a) (.type "list")
  | tup {a : Addr} {xs : List V} (e : H a = some (.tup xs)) : TyS H (.ref a) (.type "tuple")
  | dK {a : Addr} {kvs : List (Key × V)} (e : H a = some (.dK kvs)) : TyS H (.ref a) (.type "dict")
section
variable {X : Cx} {pins : List (Addr × Obj)} {σ : L2.St} {H : Hp} {s : Shared}
theorem kit_s {x : V} {u t : Value} {P : Addr} (I : Inv X pins σ H s) (T : GxR.TabG H P) (rx : RelV x u) (ty : TyS H x t) : ∃ Hh : Heap → Prop, PySem.W.KitX X.K u t Hh ∧ (∀ h' : Heap, (∀ c o, c ≠ P → s.heap.get? c = some o → h'.get? c = some o) → Hh h') ∧ u ≠ .builtin "__main__.__loader__#opaque" := by
  obtain ⟨ps, hP, _⟩ := T
  cases ty with
  | non => cases (show u = Value.none from rx); exact ⟨_, PySem.W.kitx_none, fun _ _ => True.intro, fun z => nomatch z⟩
  | bl y => cases (show u = Value.bool y from rx); exact ⟨_, PySem.W.kitx_bool, fun _ _ => True.intro, fun z => nomatch z⟩
  | int i => obtain ⟨t, q⟩ := (show ∃ t, u = Value.int i t from rx); cases q; exact ⟨_, PySem.W.kitx_int, fun _ _ => True.intro, fun z => nomatch z⟩
  | str y => obtain ⟨t, q⟩ := (show ∃ t, u = Value.str y t from rx); cases q; exact ⟨_, PySem.W.kitx_str, fun _ _ => True.intro, fun z => nomatch z⟩
  | flt y => obtain ⟨t, q⟩ := (show ∃ t, u = Value.float y t from rx); cases q; exact ⟨_, PySem.W.kitx_float, fun _ _ => True.intro, fun z => nomatch z⟩
  | byt y => obtain ⟨t, q⟩ := (show ∃ t, u = Value.bytes y t from rx); cases q; exact ⟨_, PySem.W.kitx_bytes, fun _ _ => True.intro, fun z => nomatch z⟩
  | @lst a xs ea =>
    cases (show u = Value.ref a from rx)
    have na : a ≠ P := ne_of ea hP (fun z => by cases z)
    obtain ⟨_, _, n, _, h1⟩ := (show ObjOk X.prog X.w H s.heap a (.lst xs) from I.hok a _ ea)
    exact ⟨_, PySem.W.kitx_list, fun h' k => ⟨_, k a _ na h1, rfl⟩, fun z => nomatch z⟩
  | @tup a xs ea =>
    cases (show u = Value.ref a from rx)
    have na : a ≠ P := ne_of ea hP (fun z => by cases z)
    obtain ⟨_, _, _, o, h1, h2, _⟩ := (show ObjOk X.prog X.w H s.heap a (.tup xs) from I.hok a _ ea)
    exact ⟨_, PySem.W.kitx_tuple, fun h' k => ⟨o, k a _ na h1, h2⟩, fun z => nomatch z⟩
  | @dK a kvs ea =>
    cases (show u = Value.ref a from rx)
    have na : a ≠ P := ne_of ea hP (fun z => by cases z)
    obtain ⟨_, _, vs, _, o, es, ep, h1, h2, _⟩ := (show ObjOk X.prog X.w H s.heap a (.dK kvs) from I.hok a _ ea)
    exact ⟨_, PySem.W.kitx_dict, fun h' k => ⟨o, k a _ na h1, h2.1⟩, fun z => nomatch z⟩
/-- the answer for a value -/
def IswIs (K : PySem.W.Frag) (H : Hp) (x : V) (b : Bool) : Prop := ∃ t b1 b2, TyS H x t ∧ PySem.W.kitOne K t (.type "int") = some b1 ∧ PySem.W.kitOne K t (.type "bool") = some b2 ∧ b = (b1 && !b2)
def tAllIsw (K : PySem.W.Frag) (P : Addr) (te : TE) : TE := fun σ H Q => te σ H fun v H1 => ∃ (yl : Addr) (xs : List V) (bs : List Bool), v = .ref yl ∧ SqL K H1 yl xs ∧ GxR.TabG H1 P ∧ bs.length = xs.length ∧
  (∀ (i : Nat) (y : V) (b : Bool), xs[i]? = some y → bs[i]? = some b → IswIs K H1 y b) ∧ ∀ H2, GxR.Tabbed P H1 H2 → Q (.bl (bs.all id)) H2
theorem pe_allIsw {st : Stmt} {f c P : Addr} {fd : FuncData} {iter : Expr} {px gpos p pos p1 p2 p3 : Pos} {scope : Scope} {te : TE} {k : Nat} {r1 r2 r3 r4 r5 r6 r7 r8 r9 r10 r11 : Pos} (F : Fun X.K "is_whole" "is_whole" st f fd) (SF : FnScope ["value"] ["value"] (defScope st))
    (hpl : (defScope st).names.lookup (Str.ofString "value") = some .local) (g1 : (defScope st).names.lookup (Str.ofString "isinstance") = some .globalImplicit) (g2 : (defScope st).names.lookup (Str.ofString "int") = some .globalImplicit) (g3 : (defScope st).names.lookup (Str.ofString "bool") = some .globalImplicit)
    (hst : defBody st = [.Return (some (.BoolOp .And [.Call (.Name "isinstance" r1) [.Name "value" r2, .Name "int" r3] [] r4, .UnaryOp .Not (.Call (.Name "isinstance" r5) [.Name "value" r6, .Name "bool" r7] [] r8) r9] r10)) r11]) (hb : Binds X.K fd ["value"] [])
    (m1 : X.mg "isinstance" = none) (m2 : X.mg "int" = none) (m3 : X.mg "bool" = none) (mf : X.mg "is_whole" = some (.ref f))
    (hr : Room k X.A) (hg : Gl X "all") (hm : X.mg "all" = none) (TB : GxR.TabB X.base X.mg c P) (hcode : X.env.code = .ref c) (S : GxR.GenS X.env scope "value") (gs : scope.names.lookup (Str.ofString "is_whole") = some .globalImplicit) (hi : PE X iter te)
    (hs : ∀ v, genFold iter X.env v = pure v)
    (he : starEach [.GeneratorExp (.Call (.Name "is_whole" p1) [.Name "value" p2] [] p3) [⟨.Name "value" px, iter, [], 0⟩] scope gpos] X.env = (false, eval (.GeneratorExp (.Call (.Name "is_whole" p1) [.Name "value" p2] [] p3) [⟨.Name "value" px, iter, [], 0⟩] scope gpos) X.env) :: starEach [] X.env := by rfl) :
    PE X (.Call (.Name "all" p) [.GeneratorExp (.Call (.Name "is_whole" p1) [.Name "value" p2] [] p3) [⟨.Name "value" px, iter, [], 0⟩] scope gpos] [] pos) (tAllIsw X.K P te) := by
  refine ⟨fun pins s σ H Q I h => all_lst (Ok := IswIs X.K) hr hg hm TB hcode S hi (fun s1 H1 y v b I1 T1 ry ho => ?_) hs I h he⟩
  obtain ⟨t, b1, b2, ty, e1, e2, rfl⟩ := ho
  obtain ⟨Hh, Z, pst, hv⟩ := kit_s I1 T1 ry ty
  obtain ⟨ps, hP, _⟩ := T1
  intro cenv A' E' s₂ m₂ hsc hgl _ hA hAd hAu hk hn hm2
  have bk : ∀ b o, X.base.get? b = some o → s₂.heap.get? b = some o := fun b o e => hk b o (fun z => by
    have q := (I1.bs b o e).2
    rw [z, hP] at q
    cases q) (I1.bk b o e)
  have KX : X.K.In s₂.heap := I1.mod.kin.keeps bk
  obtain ⟨mb, hb1, hb2⟩ := I1.mod.blt
  have hkf : cenv.scope.kind = .function := by rw [hsc]; exact S.kind
  refine wpAny_Call_Name_kw (Calls.Name_function_global hkf (show cenv.scope.names.lookup (Str.ofString "is_whole") = some .globalImplicit by rw [hsc]; exact gs) (Calls.loadGlobal_global (by rw [hgl]; exact I1.mod.glob.keeps bk) mf ?_) (by decide))
  refine PySem.W.callWith_K (h₀ := X.base) I1.mod.kin F.kp ?_ (by rfl) (by rfl)
  show wpAny _ _ (spliced ((false, eval (.Name "value" p2) cenv) :: [])) _ _ s₂
  refine Calls.spliced_cons (wpAny_Name (wpAny_loadName_local hkf (show cenv.scope.names.lookup (Str.ofString "value") = some .local by rw [hsc]; exact S.loc) hn hm2 ?_) (by decide))
  refine Calls.spliced_nil ⟨KX, ?_⟩
  exact quiet_isw F SF hpl g1 g2 g3 hst hb (Nat.lt_of_le_of_lt hAd (by have := hr.dp; omega)) KX (I1.mod.nolimit.keeps bk) (I1.mod.glob.keeps bk) ⟨mb, hb1.keeps bk, hb2⟩ m1 m2 m3 Z (fun h' kp => pst h' fun c o hc e => kp c o (hk c o hc e)) hv e1 e2
end
end RFI
end
-- part RFMath
section
set_option autoImplicit false
set_option linter.all false
namespace RF
/-! ### running sums, the two steps, the run of a word -/
def pre : Int → List Int → List Int
  | _, [] => []
  | s, x :: r => (s + x) :: pre (s + x) r
def stepU (ws : List Int) : List Int := 0 :: pre 0 ws
def stepD (ws : List Int) : List Int := (pre 0 ws.reverse).reverse ++ [0]
def step (b : Bool) (ws : List Int) : List Int := if b then stepU ws else stepD ws
def run (w : List Bool) (ws : List Int) : List Int := w.foldl (fun a b => step b a) ws
def cnt (w : List Bool) : Int := (run w [1]).sum

theorem pre_len : ∀ (ws : List Int) (s : Int), (pre s ws).length = ws.length
  | [], _ => rfl
  | x :: r, s => by show (pre (s + x) r).length + 1 = r.length + 1; rw [pre_len r]
theorem pre_app : ∀ (a b : List Int) (s : Int), pre s (a ++ b) = pre s a ++ pre (s + a.sum) b
  | [], b, s => by show pre s b = [] ++ pre (s + 0) b; rw [Int.add_zero]; rfl
  | x :: r, b, s => by
    show (s + x) :: pre (s + x) (r ++ b) = (s + x) :: (pre (s + x) r ++ pre (s + (x :: r).sum) b)
    rw [pre_app r b (s + x), List.sum_cons, Int.add_assoc]
theorem stepU_len (ws : List Int) : (stepU ws).length = ws.length + 1 := by
  show (pre 0 ws).length + 1 = _; rw [pre_len]
theorem stepD_len (ws : List Int) : (stepD ws).length = ws.length + 1 := by
  unfold stepD; rw [List.length_append, List.length_reverse, pre_len, List.length_reverse]; rfl
theorem step_len (b : Bool) (ws : List Int) : (step b ws).length = ws.length + 1 := by
  cases b
  · exact stepD_len ws
  · exact stepU_len ws
theorem stepD_rev (ws : List Int) : stepD ws = (stepU ws.reverse).reverse := by
  unfold stepU stepD; rw [List.reverse_cons]
/-- the sums from behind -/
def sufs : List Int → List Int
  | [] => [0]
  | x :: r => (x + r.sum) :: sufs r
theorem stepD_sufs : ∀ ws : List Int, stepD ws = sufs ws
  | [] => rfl
  | x :: r => by
    have ih := stepD_sufs r
    unfold stepD at *
    rw [List.reverse_cons, pre_app, List.reverse_append, List.append_assoc, ih]
    show [0 + r.reverse.sum + x] ++ sufs r = _
    rw [List.sum_reverse]
    show (0 + r.sum + x) :: sufs r = (x + r.sum) :: sufs r
    rw [show (0 + r.sum + x) = x + r.sum by omega]
theorem sufs_map : ∀ (ws : List Int) (s : Int), (s :: pre s ws).map (fun v => s + ws.sum - v) = sufs ws
  | [], s => by show [s + 0 - s] = [0]; rw [show s + 0 - s = 0 by omega]
  | x :: r, s => by
    have ih := sufs_map r (s + x)
    show (s + (x :: r).sum - s) :: (((s + x) :: pre (s + x) r).map (fun v => s + (x :: r).sum - v)) = (x + r.sum) :: sufs r
    rw [List.sum_cons, show s + (x + r.sum) - s = x + r.sum by omega, ← ih, show s + (x + r.sum) = s + x + r.sum by omega]
theorem stepD_map (ws : List Int) : stepD ws = (stepU ws).map (fun v => ws.sum - v) := by
  rw [stepD_sufs, ← sufs_map ws 0, Int.zero_add]; rfl
/-! ### both letters together -/
def zadd (a b : List Int) : List Int := List.zipWith (· + ·) a b
theorem zadd_sum : ∀ (a b : List Int), a.length = b.length → (zadd a b).sum = a.sum + b.sum
  | [], [], _ => rfl
  | x :: a, y :: b, h => by
    have ih := zadd_sum a b (Nat.succ.inj h)
    show ((x + y) :: zadd a b).sum = _
    rw [List.sum_cons, List.sum_cons, List.sum_cons, ih]; omega
theorem zadd_len (a b : List Int) (h : a.length = b.length) : (zadd a b).length = a.length := by
  unfold zadd; rw [List.length_zipWith, h, Nat.min_self]
theorem pre_zadd : ∀ (a b : List Int) (s t : Int), a.length = b.length → pre (s + t) (zadd a b) = zadd (pre s a) (pre t b)
  | [], [], _, _, _ => rfl
  | x :: a, y :: b, s, t, h => by
    have ih := pre_zadd a b (s + x) (t + y) (Nat.succ.inj h)
    show (s + t + (x + y)) :: pre (s + t + (x + y)) (zadd a b) = (s + x + (t + y)) :: zadd (pre (s + x) a) (pre (t + y) b)
    rw [← ih, show s + t + (x + y) = s + x + (t + y) by omega]
theorem stepU_zadd (a b : List Int) (h : a.length = b.length) : stepU (zadd a b) = zadd (stepU a) (stepU b) := by
  have e := pre_zadd a b 0 0 h
  show 0 :: pre 0 (zadd a b) = ((0 : Int) + 0) :: zadd (pre 0 a) (pre 0 b)
  rw [← e]; rfl
theorem sufs_zadd : ∀ (a b : List Int), a.length = b.length → sufs (zadd a b) = zadd (sufs a) (sufs b)
  | [], [], _ => rfl
  | x :: a, y :: b, h => by
    have ih := sufs_zadd a b (Nat.succ.inj h)
    show (x + y + (zadd a b).sum) :: sufs (zadd a b) = (x + a.sum + (y + b.sum)) :: zadd (sufs a) (sufs b)
    rw [ih, zadd_sum a b (Nat.succ.inj h), show x + y + (a.sum + b.sum) = x + a.sum + (y + b.sum) by omega]
theorem step_zadd (l : Bool) (a b : List Int) (h : a.length = b.length) : step l (zadd a b) = zadd (step l a) (step l b) := by
  cases l
  · show stepD _ = zadd (stepD _) (stepD _)
    rw [stepD_sufs, stepD_sufs, stepD_sufs, sufs_zadd a b h]
  · exact stepU_zadd a b h
theorem run_zadd : ∀ (w : List Bool) (a b : List Int), a.length = b.length → run w (zadd a b) = zadd (run w a) (run w b)
  | [], _, _, _ => rfl
  | l :: w, a, b, h => by
    show run w (step l (zadd a b)) = zadd (run w (step l a)) (run w (step l b))
    rw [step_zadd l a b h]
    exact run_zadd w _ _ (by rw [step_len, step_len, h])
theorem run_len : ∀ (w : List Bool) (a : List Int), (run w a).length = a.length + w.length
  | [], a => rfl
  | l :: w, a => by
    show (run w (step l a)).length = _
    rw [run_len w, step_len, List.length_cons]; omega
theorem run_app (u v : List Bool) (a : List Int) : run (u ++ v) a = run v (run u a) := by
  unfold run; rw [List.foldl_append]
/-! ### scaling -/
theorem pre_scale (c : Int) : ∀ (a : List Int) (s : Int), pre (c * s) (a.map (c * ·)) = (pre s a).map (c * ·)
  | [], _ => rfl
  | x :: a, s => by
    have ih := pre_scale c a (s + x)
    show (c * s + c * x) :: pre (c * s + c * x) (a.map (c * ·)) = (c * (s + x)) :: (pre (s + x) a).map (c * ·)
    rw [← ih, Int.mul_add]
theorem sum_scale (c : Int) : ∀ a : List Int, (a.map (c * ·)).sum = c * a.sum
  | [] => by show (0 : Int) = c * 0; rw [Int.mul_zero]
  | x :: a => by rw [List.map_cons, List.sum_cons, List.sum_cons, sum_scale c a, Int.mul_add]
theorem sufs_scale (c : Int) : ∀ (a : List Int), sufs (a.map (c * ·)) = (sufs a).map (c * ·)
  | [] => by show [(0 : Int)] = [c * 0]; rw [Int.mul_zero]
  | x :: a => by
    show (c * x + (a.map (c * ·)).sum) :: sufs (a.map (c * ·)) = (c * (x + a.sum)) :: (sufs a).map (c * ·)
    rw [sum_scale, sufs_scale c a, Int.mul_add]
theorem step_scale (c : Int) (l : Bool) (a : List Int) : step l (a.map (c * ·)) = (step l a).map (c * ·) := by
  cases l
  · show stepD _ = (stepD _).map _
    rw [stepD_sufs, stepD_sufs, sufs_scale]
  · show 0 :: pre 0 (a.map (c * ·)) = (c * 0) :: (pre 0 a).map (c * ·)
    rw [← pre_scale, Int.mul_zero]
theorem run_scale (c : Int) : ∀ (w : List Bool) (a : List Int), run w (a.map (c * ·)) = (run w a).map (c * ·)
  | [], _ => rfl
  | l :: w, a => by
    show run w (step l (a.map (c * ·))) = (run w (step l a)).map (c * ·)
    rw [step_scale, run_scale c w]
/-! ### from a row of ones -/
def ones (m : Nat) : List Int := List.replicate m 1
def G (m : Nat) (B : List Bool) : Int := (run B (ones (m + 1))).sum
theorem cnt_G (B : List Bool) : cnt B = G 0 B := rfl
theorem zadd_const : ∀ (l : List Int) (S : Int), zadd l (l.map (fun v => S - v)) = (ones l.length).map (S * ·)
  | [], _ => rfl
  | x :: l, S => by
    show (x + (S - x)) :: zadd l (l.map (fun v => S - v)) = (S * 1) :: (ones l.length).map (S * ·)
    rw [zadd_const l S, show x + (S - x) = S by omega, Int.mul_one]
theorem both (ws : List Int) : zadd (stepU ws) (stepD ws) = (ones (ws.length + 1)).map (ws.sum * ·) := by
  rw [stepD_map, zadd_const, stepU_len]
theorem split_run (A B : List Bool) (ws : List Int) :
    (run (A ++ true :: B) ws).sum + (run (A ++ false :: B) ws).sum = (run A ws).sum * G (A.length + ws.length) B := by
  have e1 : run (A ++ true :: B) ws = run B (stepU (run A ws)) := by rw [run_app]; rfl
  have e2 : run (A ++ false :: B) ws = run B (stepD (run A ws)) := by rw [run_app]; rfl
  have hl : (stepU (run A ws)).length = (stepD (run A ws)).length := by rw [stepU_len, stepD_len]
  rw [e1, e2, ← zadd_sum _ _ (by rw [run_len, run_len, hl]), ← run_zadd _ _ _ hl, both, run_scale, sum_scale, run_len]
  unfold G
  rw [Nat.add_comm ws.length]
theorem split_G (m : Nat) (A B : List Bool) : G m (A ++ true :: B) + G m (A ++ false :: B) = G m A * G (A.length + (m + 1)) B := by
  have e := split_run A B (ones (m + 1))
  rw [show (ones (m + 1)).length = m + 1 from List.length_replicate] at e
  exact e
/-! ### choices -/
def ch : Nat → Nat → Nat
  | _, 0 => 1
  | 0, _ + 1 => 0
  | n + 1, k + 1 => ch n k + ch n (k + 1)
def fac : Nat → Nat
  | 0 => 1
  | n + 1 => (n + 1) * fac n
theorem fac_pos : ∀ n, 0 < fac n
  | 0 => Nat.one_pos
  | n + 1 => Nat.mul_pos (Nat.succ_pos n) (fac_pos n)
theorem ch_zero (n : Nat) : ch n 0 = 1 := by cases n <;> rfl
theorem ch_lt : ∀ (n k : Nat), n < k → ch n k = 0
  | _, 0, h => absurd h (Nat.not_lt_zero _)
  | 0, k + 1, _ => rfl
  | n + 1, k + 1, h => by
    show ch n k + ch n (k + 1) = 0
    rw [ch_lt n k (by omega), ch_lt n (k + 1) (by omega)]
theorem ch_fac : ∀ (a b : Nat), ch (a + b) a * (fac a * fac b) = fac (a + b)
  | 0, b => by rw [Nat.zero_add, ch_zero, Nat.one_mul]; show 1 * fac b = fac b; rw [Nat.one_mul]
  | a + 1, 0 => by
    have hs : ∀ n, ch n n = 1 := by
      intro n
      induction n with
      | zero => rfl
      | succ n ih => show ch n n + ch n (n + 1) = 1; rw [ih, ch_lt n (n + 1) (by omega)]
    show ch (a + 1) (a + 1) * (fac (a + 1) * 1) = fac (a + 1)
    rw [hs, Nat.one_mul, Nat.mul_one]
  | a + 1, b + 1 => by
    have i1 := ch_fac a (b + 1)
    have i2 := ch_fac (a + 1) b
    have e : ch (a + 1 + (b + 1)) (a + 1) = ch (a + (b + 1)) a + ch (a + 1 + b) (a + 1) := by
      rw [show a + 1 + (b + 1) = (a + (b + 1)) + 1 by omega, show a + 1 + b = a + (b + 1) by omega]; rfl
    have f : fac (a + 1 + (b + 1)) = (a + 1 + (b + 1)) * fac (a + (b + 1)) := by
      rw [show a + 1 + (b + 1) = (a + (b + 1)) + 1 by omega]; rfl
    have g : fac (a + 1 + b) = fac (a + (b + 1)) := by rw [show a + 1 + b = a + (b + 1) by omega]
    rw [g] at i2
    have fa : fac (a + 1) = (a + 1) * fac a := rfl
    have fb : fac (b + 1) = (b + 1) * fac b := rfl
    rw [e, f, fa, fb]
    rw [fb] at i1
    rw [fa] at i2
    grind
theorem ch_symm (a b : Nat) : ch (a + b) a = ch (a + b) b := by
  have h1 := ch_fac a b
  have h2 := ch_fac b a
  rw [Nat.add_comm b a, Nat.mul_comm (fac b)] at h2
  exact Nat.eq_of_mul_eq_mul_right (Nat.mul_pos (fac_pos a) (fac_pos b)) (h1.trans h2.symm)
theorem ch_tri (a b c : Nat) : ch (a + (b + c)) (b + c) * ch (b + c) c = ch (a + b + c) c * ch (a + b) b := by
  have h1 : ch (a + (b + c)) (b + c) * (fac a * fac (b + c)) = fac (a + (b + c)) := by
    rw [← ch_symm, ch_fac]
  have h2 : ch (b + c) c * (fac b * fac c) = fac (b + c) := by rw [← ch_symm, ch_fac]
  have h3 : ch (a + b + c) c * (fac (a + b) * fac c) = fac (a + b + c) := by rw [← ch_symm, ch_fac]
  have h4 : ch (a + b) b * (fac a * fac b) = fac (a + b) := by rw [← ch_symm, ch_fac]
  have hN : fac (a + (b + c)) = fac (a + b + c) := by rw [Nat.add_assoc]
  have hp : 0 < fac a * (fac b * fac c) := Nat.mul_pos (fac_pos a) (Nat.mul_pos (fac_pos b) (fac_pos c))
  refine Nat.eq_of_mul_eq_mul_right hp ?_
  calc ch (a + (b + c)) (b + c) * ch (b + c) c * (fac a * (fac b * fac c))
      = ch (a + (b + c)) (b + c) * (fac a * (ch (b + c) c * (fac b * fac c))) := by grind
    _ = fac (a + b + c) := by rw [h2, h1, hN]
    _ = ch (a + b + c) c * (ch (a + b) b * (fac a * fac b) * fac c) := by rw [h4, h3]
    _ = _ := by grind
theorem ch_self (n : Nat) : ch n n = 1 := by
  have e := ch_symm n 0
  rw [Nat.add_zero, ch_zero] at e
  exact e
/-! ### rises alone -/
def Pl (k s : Nat) : Nat → List Int
  | 0 => []
  | m + 1 => (ch (k + s) k : Nat) :: Pl k (s + 1) m
theorem pre_Pl (k : Nat) : ∀ (m s : Nat), pre (ch (k + s) (k + 1) : Nat) (Pl k s m) = Pl (k + 1) s m
  | 0, _ => rfl
  | m + 1, s => by
    have ih := pre_Pl k m (s + 1)
    have e : ch (k + (s + 1)) (k + 1) = ch (k + s) k + ch (k + s) (k + 1) := rfl
    have e2 : ch (k + 1 + s) (k + 1) = ch (k + s) k + ch (k + s) (k + 1) := by rw [show k + 1 + s = k + s + 1 by omega]; rfl
    show ((ch (k + s) (k + 1) : Nat) + (ch (k + s) k : Nat) : Int) :: pre ((ch (k + s) (k + 1) : Nat) + (ch (k + s) k : Nat) : Int) (Pl k (s + 1) m) = ((ch (k + 1 + s) (k + 1) : Nat) : Int) :: Pl (k + 1) (s + 1) m
    rw [← ih, e, e2, Int.natCast_add, Int.add_comm]
theorem sum_Pl (k : Nat) : ∀ (m s : Nat), ((ch (k + s) (k + 1) : Nat) : Int) + (Pl k s m).sum = (ch (k + s + m) (k + 1) : Nat)
  | 0, s => by show _ + (0 : Int) = _; rw [Int.add_zero]; rfl
  | m + 1, s => by
    have ih := sum_Pl k m (s + 1)
    have e : ch (k + (s + 1)) (k + 1) = ch (k + s) k + ch (k + s) (k + 1) := rfl
    rw [e, Int.natCast_add] at ih
    show _ + ((ch (k + s) k : Nat) :: Pl k (s + 1) m : List Int).sum = _
    rw [List.sum_cons, show k + s + (m + 1) = k + (s + 1) + m by omega, ← ih]
    omega
def zeros (k : Nat) : List Int := List.replicate k 0
theorem pre_zeros : ∀ (k : Nat) (b : List Int), pre 0 (zeros k ++ b) = zeros k ++ pre 0 b
  | 0, _ => rfl
  | k + 1, b => by
    show ((0 : Int) + 0) :: pre (0 + 0) (zeros k ++ b) = 0 :: (zeros k ++ pre 0 b)
    rw [Int.add_zero, pre_zeros k b]
def ups (k : Nat) : List Bool := List.replicate k true
theorem run_ups (m : Nat) : ∀ k : Nat, run (ups k) (ones (m + 1)) = zeros k ++ Pl k 0 (m + 1)
  | 0 => by
    show ones (m + 1) = Pl 0 0 (m + 1)
    have h : ∀ (n s : Nat), ones n = Pl 0 s n := by
      intro n
      induction n with
      | zero => intro s; rfl
      | succ n ih => intro s; show 1 :: ones n = ((ch (0 + s) 0 : Nat) : Int) :: Pl 0 (s + 1) n; rw [ch_zero, ← ih]; rfl
    exact h _ _
  | k + 1 => by
    have ih := run_ups m k
    have e : ups (k + 1) = ups k ++ [true] := List.replicate_succ'
    rw [e, run_app, ih]
    show 0 :: pre 0 (zeros k ++ Pl k 0 (m + 1)) = 0 :: (zeros k ++ Pl (k + 1) 0 (m + 1))
    have e2 := pre_Pl k (m + 1) 0
    rw [Nat.add_zero, ch_lt k (k + 1) (by omega)] at e2
    rw [pre_zeros, ← e2]; rfl
theorem sum_zeros : ∀ k, (zeros k).sum = 0
  | 0 => rfl
  | k + 1 => by show (0 :: zeros k).sum = 0; rw [List.sum_cons, sum_zeros k]; rfl
theorem G_ups (m k : Nat) : G m (ups k) = (ch (k + 1 + m) (k + 1) : Nat) := by
  unfold G
  rw [run_ups, List.sum_append, sum_zeros, Int.zero_add]
  have e := sum_Pl k (m + 1) 0
  rw [Nat.add_zero, ch_lt k (k + 1) (by omega)] at e
  rw [show k + 1 + m = k + (m + 1) by omega, ← e]
  show _ = (0 : Int) + _
  rw [Int.zero_add]
theorem cnt_ups (k : Nat) : cnt (ups k) = 1 := by
  rw [cnt_G, G_ups, Nat.add_zero, ch_self]; rfl
/-! ### the product -/
theorem G_mulA : ∀ (n : Nat) (B : List Bool), B.length = n → ∀ (m k : Nat), G m (B ++ ups k) = cnt (B ++ ups k) * (ch (n + k + 1 + m) (n + k + 1) : Nat)
  | 0, B, h, m, k => by
    obtain rfl : B = [] := List.length_eq_zero_iff.mp h
    rw [List.nil_append, G_ups, cnt_ups, Int.one_mul, Nat.zero_add]
  | n + 1, B, h, m, k => by
    have hne : B ≠ [] := by intro e; subst e; cases h
    obtain ⟨B', l, rfl⟩ : ∃ B' l, B = B' ++ [l] := ⟨B.dropLast, B.getLast hne, (List.dropLast_concat_getLast hne).symm⟩
    have hl : B'.length = n := by rw [List.length_append] at h; exact Nat.succ.inj h
    have i1 := G_mulA n B' hl m (k + 1)
    have i0 := G_mulA n B' hl m 0
    have eu : B' ++ [true] ++ ups k = B' ++ ups (k + 1) := by rw [List.append_assoc]; rfl
    cases l with
    | true => rw [eu, i1, show n + (k + 1) + 1 = n + 1 + k + 1 by omega]
    | false =>
      have s1 := split_G m B' (ups k)
      have s0 := split_G 0 B' (ups k)
      have ef : B' ++ [false] ++ ups k = B' ++ false :: ups k := by rw [List.append_assoc]; rfl
      have et : B' ++ true :: ups k = B' ++ ups (k + 1) := rfl
      rw [ef]
      rw [et, i1, G_ups, hl] at s1
      rw [et, G_ups, hl, ← cnt_G, ← cnt_G, ← cnt_G] at s0
      rw [show B' ++ ups 0 = B' from List.append_nil _] at i0
      rw [i0] at s1
      have t := ch_tri m (n + 1) (k + 1)
      rw [show m + (n + 1 + (k + 1)) = n + (k + 1) + 1 + m by omega, show n + 1 + (k + 1) = n + (k + 1) + 1 by omega,
        show m + (n + 1) + (k + 1) = k + 1 + (n + (m + 1)) by omega, show m + (n + 1) = n + 0 + 1 + m by omega] at t
      rw [show k + 1 + (n + (0 + 1)) = n + (k + 1) + 1 by omega] at s0
      rw [show n + 1 + k + 1 = n + (k + 1) + 1 by omega]
      have t' : ((ch (n + (k + 1) + 1 + m) (n + (k + 1) + 1) : Nat) : Int) * (ch (n + (k + 1) + 1) (k + 1) : Nat) = (ch (k + 1 + (n + (m + 1))) (k + 1) : Nat) * (ch (n + 0 + 1 + m) (n + 0 + 1) : Nat) := by
        rw [← Int.natCast_mul, ← Int.natCast_mul]
        exact congrArg _ t
      grind
theorem G_mul (m : Nat) (B : List Bool) : G m B = cnt B * (ch (B.length + 1 + m) (B.length + 1) : Nat) := by
  have e := G_mulA B.length B rfl m 0
  rw [show B ++ ups 0 = B from List.append_nil _] at e
  exact e
/-! ### told backwards -/
theorem ups_rev (k : Nat) : (ups k).reverse = ups k := List.reverse_replicate
theorem cnt_revA : ∀ (B : List Bool) (k : Nat), cnt (ups k ++ B).reverse = cnt (ups k ++ B)
  | [], k => by rw [List.append_nil, ups_rev]
  | true :: B, k => by
    have e : ups k ++ true :: B = ups (k + 1) ++ B := by
      rw [show ups (k + 1) = ups k ++ [true] from List.replicate_succ', List.append_assoc]; rfl
    rw [e]; exact cnt_revA B (k + 1)
  | false :: B, k => by
    have i0 := cnt_revA B 0
    have i1 := cnt_revA B (k + 1)
    have e : ups (k + 1) ++ B = ups k ++ true :: B := by
      rw [show ups (k + 1) = ups k ++ [true] from List.replicate_succ', List.append_assoc]; rfl
    have r : ∀ l : Bool, (ups k ++ l :: B).reverse = B.reverse ++ l :: ups k := by
      intro l
      rw [List.reverse_append, ups_rev, List.reverse_cons, List.append_assoc]; rfl
    rw [e, r true] at i1
    rw [r false]
    rw [show ups 0 ++ B = B from rfl] at i0
    have s1 := split_G 0 (ups k) B
    have s2 := split_G 0 B.reverse (ups k)
    rw [← cnt_G, ← cnt_G, ← cnt_G, cnt_ups, G_mul] at s1
    rw [← cnt_G, ← cnt_G, ← cnt_G, i0, G_mul, cnt_ups, i1] at s2
    rw [List.length_reverse] at s2
    rw [show (ups k).length = k from List.length_replicate] at s1 s2
    have c := ch_symm (B.length + 1) (k + 1)
    rw [show B.length + 1 + (k + (0 + 1)) = B.length + 1 + (k + 1) by omega] at s1
    rw [show k + 1 + (B.length + (0 + 1)) = B.length + 1 + (k + 1) by omega, ← c] at s2
    grind
theorem cnt_rev (B : List Bool) : cnt B.reverse = cnt B := cnt_revA B 0
/-! ### letters exchanged -/
theorem step_not (b : Bool) (ws : List Int) : step (!b) ws.reverse = (step b ws).reverse := by
  cases b
  · show stepU ws.reverse = (stepD ws).reverse
    rw [stepD_rev, List.reverse_reverse]
  · show stepD ws.reverse = (stepU ws).reverse
    rw [stepD_rev, List.reverse_reverse]
theorem run_not : ∀ (w : List Bool) (ws : List Int), run (w.map (!·)) ws.reverse = (run w ws).reverse
  | [], _ => rfl
  | b :: w, ws => by
    show run (w.map (!·)) (step (!b) ws.reverse) = (run w (step b ws)).reverse
    rw [step_not, run_not w]
theorem cnt_not (w : List Bool) : cnt (w.map (!·)) = cnt w := by
  unfold cnt
  rw [show ([1] : List Int) = [1].reverse from rfl, run_not, List.sum_reverse]; rfl
/-! ### one more letter -/
theorem cnt_more (w : List Bool) : cnt (w ++ [true]) + cnt (w ++ [false]) = ((w.length + 2 : Nat) : Int) * cnt w := by
  have e := split_G 0 w []
  have f : G (w.length + (0 + 1)) [] = ((w.length + 2 : Nat) : Int) := by
    show (ones (w.length + 2)).sum = _
    have h : ∀ n : Nat, (ones n).sum = (n : Int) := by
      intro n
      induction n with
      | zero => rfl
      | succ n ih => show (1 :: ones n).sum = _; rw [List.sum_cons, ih]; omega
    exact h _
  rw [f] at e
  rw [cnt_G, cnt_G, cnt_G, e, Int.mul_comm]
/-! ### at least one -/
def Pos (ws : List Int) : Prop := (∀ v ∈ ws, 0 ≤ v) ∧ 1 ≤ ws.sum
theorem pre_nonneg : ∀ (ws : List Int) (s : Int), 0 ≤ s → (∀ v ∈ ws, 0 ≤ v) → ∀ v ∈ pre s ws, 0 ≤ v
  | [], _, _, _, v, h => by cases h
  | x :: r, s, hs, hw, v, h => by
    have hx : 0 ≤ x := hw x (List.mem_cons_self)
    rcases List.mem_cons.mp h with rfl | h
    · omega
    · exact pre_nonneg r (s + x) (by omega) (fun v hv => hw v (List.mem_cons_of_mem _ hv)) v h
theorem sum_nonneg : ∀ (ws : List Int), (∀ v ∈ ws, 0 ≤ v) → 0 ≤ ws.sum
  | [], _ => Int.le_refl 0
  | x :: r, h => by
    have hx : 0 ≤ x := h x (List.mem_cons_self)
    have := sum_nonneg r (fun v hv => h v (List.mem_cons_of_mem _ hv))
    rw [List.sum_cons]; omega
theorem pre_sum_ge : ∀ (ws : List Int) (s : Int), 0 ≤ s → (∀ v ∈ ws, 0 ≤ v) → ws.sum ≤ (pre s ws).sum
  | [], _, _, _ => Int.le_refl 0
  | x :: r, s, hs, hw => by
    have hx : 0 ≤ x := hw x (List.mem_cons_self)
    have := pre_sum_ge r (s + x) (by omega) (fun v hv => hw v (List.mem_cons_of_mem _ hv))
    show (x :: r).sum ≤ ((s + x) :: pre (s + x) r).sum
    rw [List.sum_cons, List.sum_cons]; omega
theorem stepU_pos {ws : List Int} (h : Pos ws) : Pos (stepU ws) := by
  refine ⟨fun v hv => ?_, ?_⟩
  · rcases List.mem_cons.mp hv with rfl | hv
    · exact Int.le_refl 0
    · exact pre_nonneg ws 0 (Int.le_refl 0) h.1 v hv
  · have := pre_sum_ge ws 0 (Int.le_refl 0) h.1
    have h2 := h.2
    show 1 ≤ (0 :: pre 0 ws).sum
    rw [List.sum_cons]; omega
theorem pos_rev {ws : List Int} (h : Pos ws) : Pos ws.reverse := ⟨fun v hv => h.1 v (List.mem_reverse.mp hv), by rw [List.sum_reverse]; exact h.2⟩
theorem step_pos (b : Bool) {ws : List Int} (h : Pos ws) : Pos (step b ws) := by
  cases b
  · show Pos (stepD ws)
    rw [stepD_rev]; exact pos_rev (stepU_pos (pos_rev h))
  · exact stepU_pos h
theorem run_pos : ∀ (w : List Bool) {ws : List Int}, Pos ws → Pos (run w ws)
  | [], _, h => h
  | b :: w, _, h => run_pos w (step_pos b h)
theorem pos_one : Pos [1] := by
  refine ⟨fun v h => ?_, by decide⟩
  rcases List.mem_cons.mp h with rfl | h
  · decide
  · cases h
theorem cnt_pos (w : List Bool) : 1 ≤ cnt w := (run_pos w pos_one).2
/-! ### by turns is the most -/
inductive Le : List Int → List Int → Prop
  | nil : Le [] []
  | cons {x y : Int} {a b : List Int} : x ≤ y → Le a b → Le (x :: a) (y :: b)
theorem Le.refl : ∀ a : List Int, Le a a
  | [] => .nil
  | _ :: a => .cons (Int.le_refl _) (Le.refl a)
theorem Le.trans : ∀ {a b c : List Int}, Le a b → Le b c → Le a c
  | _, _, _, .nil, .nil => .nil
  | _, _, _, .cons h t, .cons h' t' => .cons (Int.le_trans h h') (t.trans t')
theorem Le.sum : ∀ {a b : List Int}, Le a b → a.sum ≤ b.sum
  | _, _, .nil => Int.le_refl _
  | _, _, .cons h t => by have := t.sum; rw [List.sum_cons, List.sum_cons]; omega
theorem Le.len : ∀ {a b : List Int}, Le a b → a.length = b.length
  | _, _, .nil => rfl
  | _, _, .cons h t => congrArg (· + 1) t.len
theorem Le.app : ∀ {a b c d : List Int}, Le a b → Le c d → Le (a ++ c) (b ++ d)
  | _, _, _, _, .nil, h => h
  | _, _, _, _, .cons h t, h' => .cons h (t.app h')
theorem Le.rev : ∀ {a b : List Int}, Le a b → Le a.reverse b.reverse
  | _, _, .nil => .nil
  | _, _, .cons h t => by rw [List.reverse_cons, List.reverse_cons]; exact t.rev.app (.cons h .nil)
theorem Le.pre : ∀ {a b : List Int} {s t : Int}, s ≤ t → Le a b → Le (pre s a) (pre t b)
  | _, _, _, _, _, .nil => .nil
  | _, _, _, _, h, .cons h' r => .cons (Int.add_le_add h h') (Le.pre (Int.add_le_add h h') r)
theorem Le.stepU {a b : List Int} (h : Le a b) : Le (stepU a) (stepU b) := .cons (Int.le_refl 0) (h.pre (Int.le_refl 0))
/-- the prefix sums of two lists, as a condition on all takes -/
theorem pre_le_of : ∀ (a b : List Int) (s t : Int), a.length = b.length → (∀ j, j ≤ a.length → s + (a.take j).sum ≤ t + (b.take j).sum) → Le (pre s a) (pre t b)
  | [], [], _, _, _, _ => .nil
  | x :: a, y :: b, s, t, hl, h => by
    have h1 := h 1 (by show 1 ≤ a.length + 1; omega)
    have e1 : ((x :: a).take 1).sum = x := by show ([x] ++ a.take 0).sum = x; simp
    have e2 : ((y :: b).take 1).sum = y := by show ([y] ++ b.take 0).sum = y; simp
    rw [e1, e2] at h1
    refine .cons h1 (pre_le_of a b (s + x) (t + y) (Nat.succ.inj hl) (fun j hj => ?_))
    have h2 := h (j + 1) (by show j + 1 ≤ a.length + 1; omega)
    rw [List.take_succ_cons, List.take_succ_cons, List.sum_cons, List.sum_cons] at h2
    omega
def Up : List Int → Prop
  | [] => True
  | [_] => True
  | x :: y :: r => x ≤ y ∧ Up (y :: r)
theorem Up.tail : ∀ {x : Int} {r : List Int}, Up (x :: r) → Up r
  | _, [], _ => trivial
  | _, _ :: _, h => h.2
theorem up_pre : ∀ (ws : List Int) (s : Int), (∀ v ∈ ws, 0 ≤ v) → Up (s :: pre s ws)
  | [], _, _ => trivial
  | x :: r, s, h => by
    have hx : 0 ≤ x := h x (List.mem_cons_self)
    exact ⟨by show s ≤ s + x; omega, up_pre r (s + x) (fun v hv => h v (List.mem_cons_of_mem _ hv))⟩
/-- of a rising list the first ones sum up to no more than the last ones -/
theorem take_shift : ∀ (x : Int) (r : List Int) (j : Nat), Up (x :: r) → j ≤ r.length → ((x :: r).take j).sum ≤ (r.take j).sum
  | _, _, 0, _, _ => by simp
  | x, [], j + 1, _, h => by cases h
  | x, y :: r, j + 1, h, hj => by
    have ih := take_shift y r j h.2 (by simpa using hj)
    rw [List.take_succ_cons, List.take_succ_cons, List.sum_cons, List.sum_cons]
    have := h.1
    omega
theorem take_drop : ∀ (a : List Int) (j : Nat), Up a → j ≤ a.length → (a.take j).sum ≤ (a.drop (a.length - j)).sum
  | [], _, _, _ => by simp
  | x :: r, j, h, hj => by
    by_cases e : j = r.length + 1
    · subst e
      rw [List.length_cons, Nat.sub_self, List.drop_zero, List.take_of_length_le (by rw [List.length_cons]; exact Nat.le_refl _)]
      exact Int.le_refl _
    · have hj' : j ≤ r.length := by rw [List.length_cons] at hj; omega
      have ih := take_drop r j h.tail hj'
      rw [List.length_cons, show r.length + 1 - j = (r.length - j) + 1 by omega, List.drop_succ_cons]
      exact Int.le_trans (take_shift x r j h hj') ih
theorem pre_rev_le (a : List Int) (h : Up a) : Le (pre 0 a) (pre 0 a.reverse) := by
  refine pre_le_of a a.reverse 0 0 (by rw [List.length_reverse]) (fun j hj => ?_)
  rw [Int.zero_add, Int.zero_add, List.take_reverse, List.sum_reverse]
  exact take_drop a j h hj
/-- by turns, the last one a rise -/
def alt : Nat → List Int
  | 0 => [1]
  | n + 1 => stepU (alt n).reverse
theorem alt_pos : ∀ n, Pos (alt n)
  | 0 => pos_one
  | n + 1 => stepU_pos (pos_rev (alt_pos n))
theorem alt_up : ∀ n, Up (alt n)
  | 0 => trivial
  | n + 1 => up_pre _ 0 (pos_rev (alt_pos n)).1
theorem alt_le (n : Nat) : Le (stepU (alt n)) (alt (n + 1)) := .cons (Int.le_refl 0) (pre_rev_le _ (alt_up n))
/-- seen from its last letter -/
def seen (w : List Bool) : List Int := if w.getLast? = some false then (run w [1]).reverse else run w [1]
theorem seen_le : ∀ (n : Nat) (w : List Bool), w.length = n → Le (seen w) (alt n)
  | 0, w, h => by
    obtain rfl : w = [] := List.length_eq_zero_iff.mp h
    exact Le.refl _
  | n + 1, w, h => by
    have hne : w ≠ [] := by intro e; subst e; cases h
    obtain ⟨B, l, rfl⟩ : ∃ B l, w = B ++ [l] := ⟨w.dropLast, w.getLast hne, (List.dropLast_concat_getLast hne).symm⟩
    have hl : B.length = n := by rw [List.length_append] at h; exact Nat.succ.inj h
    have ih := seen_le n B hl
    have lst : (B ++ [l]).getLast? = some l := by rw [List.getLast?_append]; rfl
    have run1 : run (B ++ [l]) [1] = step l (run B [1]) := by rw [run_app]; rfl
    have key : seen (B ++ [l]) = stepU (if l then run B [1] else (run B [1]).reverse) := by
      unfold seen
      rw [lst, run1]
      cases l
      · show (stepD _).reverse = _
        rw [stepD_rev, List.reverse_reverse]; rfl
      · rfl
    have two : (if l then run B [1] else (run B [1]).reverse) = seen B ∨ (if l then run B [1] else (run B [1]).reverse) = (seen B).reverse := by
      unfold seen
      by_cases hb : B.getLast? = some false
      · rw [if_pos hb]
        cases l
        · exact .inl rfl
        · refine .inr ?_
          rw [List.reverse_reverse]; rfl
      · rw [if_neg hb]
        cases l
        · exact .inr rfl
        · exact .inl rfl
    rw [key]
    rcases two with e | e
    · rw [e]; exact (ih.stepU).trans (alt_le n)
    · rw [e]; exact ih.rev.stepU
theorem cnt_seen (w : List Bool) : cnt w = (seen w).sum := by
  unfold seen cnt
  split
  · rw [List.sum_reverse]
  · rfl
theorem cnt_le_alt (w : List Bool) : cnt w ≤ (alt w.length).sum := by
  rw [cnt_seen]; exact (seen_le _ w rfl).sum
/-- letters by turns, beginning with a rise -/
def turns (n : Nat) : List Bool := (List.range n).map (fun i => i % 2 == 0)
theorem turns_succ (n : Nat) : turns (n + 1) = turns n ++ [n % 2 == 0] := by
  unfold turns; rw [List.range_succ, List.map_append]; rfl
theorem seen_turns : ∀ n, run (turns n) [1] = if n % 2 = 0 then (alt n).reverse else alt n
  | 0 => rfl
  | n + 1 => by
    have ih := seen_turns n
    rw [turns_succ, run_app, ih]
    rcases Nat.mod_two_eq_zero_or_one n with e | e
    · have e1 : (n + 1) % 2 = 1 := by omega
      rw [e, e1]; rfl
    · have e1 : (n + 1) % 2 = 0 := by omega
      rw [e, e1]
      show stepD (alt n) = (stepU (alt n).reverse).reverse
      rw [stepD_rev]
theorem cnt_turns (n : Nat) : cnt (turns n) = (alt n).sum := by
  unfold cnt
  rw [seen_turns]
  split
  · rw [List.sum_reverse]
  · rfl
theorem cnt_most (w : List Bool) : cnt w ≤ cnt (turns w.length) := by
  rw [cnt_turns]; exact cnt_le_alt w
end RF
end
-- part RStr
section
set_option Elab.async false
set_option linter.all false
set_option maxRecDepth 100000
set_option maxHeartbeats 2000000
/-! Texts: e[::-1], text times number; the words of rises and falls as texts. -/
namespace RFI
open PySem PySem.Spec PyProof.Rows L2
/-- a text of these signs -/
def tx (l : List Nat) : Str := ⟨l.toArray⟩
theorem tx_len (l : List Nat) : (tx l).length = l.length := by simp [tx, Str.length]
theorem tx_list (l : List Nat) : (tx l).cps.toList = l := by simp [tx]
theorem tx_of (z : Str) : z = tx z.cps.toList := by cases z; simp [tx]
section
variable {X : Cx}
def tRevS (te : TE) : TE := fun σ H Q => te σ H fun x H1 => ∃ l, x = .str (tx l) ∧ l.length ≤ sizeLine ∧ Q (.str (tx l.reverse)) H1
theorem pe_revS {e : Expr} {te : TE} {k : Nat} {p1 p2 p3 pos : Pos} (he : PE X e te) : PE X (.Subscript e (.Slice none none (some (.UnaryOp .USub (.Constant (.int 1) k p1) p2)) p3) pos) (tRevS te) := by
  refine ⟨fun pins s σ H Q I h => ?_⟩
  refine Subscript_ (thn (he.run pins s σ H _ I h) fun v s1 ⟨x, H1, I1, r1, q1⟩ => ?_)
  obtain ⟨l, ex, hx, q⟩ := q1
  subst ex
  obtain ⟨tz, rfl⟩ := r1
  have hst : PO X (some (.UnaryOp .USub (.Constant (.int 1) k p1) p2)) (tPart (tUn (rU fun i => .int (-i)) (tC (.int 1)))) := po_some (pe_un un_neg pe_int)
  refine wpAny_Slice (thn (po_none.run pins s1 σ H1 (fun o H2 => o = none ∧ H2 = H1) I1 ⟨rfl, rfl⟩) fun vl s2 ⟨lo, H2, I2, pl, el, e2⟩ => ?_)
  subst el e2
  refine thn (po_none.run pins s2 σ H2 (fun o H3 => o = none ∧ H3 = H2) I2 ⟨rfl, rfl⟩) fun vu s3 ⟨u, H3, I3, pu, eu, e3⟩ => ?_
  subst eu e3
  refine thn (hst.run pins s3 σ H3 (fun o H4 => o = some (-1) ∧ H4 = H3) I3 ⟨1, rfl, -1, rfl, rfl, rfl⟩) fun vs s4 ⟨o, H4, I4, ps, eo, e4⟩ => ?_
  subst eo e4
  have I5 : Inv X pins σ H4 { s4 with heap := s4.heap.push { cls := .type "slice", data := .fields #[vl, vu, vs] } } := I4.kept (t' := s4.toks) fun b ob q => Heap.get?_push_of_some _ q
  obtain ⟨l1, rfl, e1⟩ := IsPart.raw pl
  obtain ⟨u1, rfl, e2⟩ := IsPart.raw pu
  obtain ⟨st, rfl, e3⟩ := IsPart.raw ps
  have l1n : l1 = none := by cases l1 with | none => rfl | some a => cases e1
  have u1n : u1 = none := by cases u1 with | none => rfl | some a => cases e2
  subst l1n u1n
  show wpAny (model X.prog X.w) X.A (subscriptTail e (.Slice none none (some (.UnaryOp .USub (.Constant (.int 1) k p1) p2)) p3) (.str (tx l) tz) (.ref s4.heap.objs.size)) (EP X pins σ Q) X.xe _
  refine tail_any (ops := [.str (tx l) tz, .ref s4.heap.objs.size]) (typeIs_str _ _ _) (F.slot_str_getitem.lookup) ?_ (by with_unfolding_all rfl)
  refine wpAny_getItem_str_slice (l := none) (u := none) (st := st) ⟨_, Heap.get?_push_size _ rfl, rfl, rfl⟩ (by rw [e3]; rfl) ?_
  unfold sliceMade
  rw [e3]
  rw [if_neg (by simp)]
  have pick : slicePicked (tx l) none none st = (List.range (tx l).length).reverse := by
    unfold slicePicked
    rw [e3]
    show sliceRange (((tx l).length : Int) - 1) (-1) (-1) = _
    rw [PySem.W.krv_sliceRange, PySem.W.krv_range]
  have whole : (⟨((slicePicked (tx l) none none st).filterMap ((tx l).cps[·]?)).toArray⟩ : Str) = tx l.reverse := by
    rw [pick, List.filterMap_reverse]
    have h := PySem.W.krv_all (tx l).cps
    rw [show (tx l).length = (tx l).cps.size from rfl, h, tx_list]
    rfl
  rw [whole]
  exact ⟨by rw [tx_len, List.length_reverse]; exact hx, .str _, H4, I5.tok _, ⟨_, rfl⟩, q⟩
/-- text * number -/
def rRepS : R2 := fun x y H Q => ∃ l n, x = .str (tx l) ∧ y = .int n ∧ 0 ≤ n ∧ n ≤ 1000000 ∧ l.length * n.toNat ≤ 1000000 ∧ Q (.str (tx (List.replicate n.toNat l).flatten)) H
theorem fold_app : ∀ (ls : List (Array Nat)) (b : Array Nat), (ls.foldl (· ++ ·) b).toList = b.toList ++ (ls.map Array.toList).flatten
  | [], b => by simp
  | a :: r, b => by
    rw [List.foldl_cons, fold_app r (b ++ a)]
    simp
theorem op_repS : OpR X (binaryOp .Mult) rRepS := by
  intro pins s σ H x y v u Q I rx ry h
  obtain ⟨l, n, rfl, rfl, h0, h1, h2, q⟩ := h
  obtain ⟨t, rfl⟩ := rx
  obtain ⟨t', rfl⟩ := ry
  have hsm : (1000000 : Nat) ≤ sizeLine := by decide
  have fit : (tx l).length * n.toNat ≤ 1000000 := by rw [tx_len]; exact h2
  refine PySem.P.mul_str (by
      have a : ¬ n < -(2 ^ 63 : Int) := by omega
      have b : ¬ n ≥ 2 ^ 63 := by omega
      rw [decide_eq_false a, decide_eq_false b]; rfl) (fun hn1 hz => ?_) (fun hn1 hz => ?_) ?_
  · intro hgt
    have hn : 1 ≤ n := by omega
    have d : n * ((2 ^ 63 - 1) / n) ≤ 2 ^ 63 - 1 := Int.mul_ediv_self_le (by omega)
    have lenle : ((tx l).length : Int) ≤ 1000000 := by
      have : (tx l).length ≤ (tx l).length * n.toNat := Nat.le_mul_of_pos_right _ (by omega)
      omega
    have dl : (1000000 : Int) ≤ (2 ^ 63 - 1) / n := by
      apply (Int.le_ediv_iff_mul_le (by omega)).mpr
      have : (1000000 : Int) * n ≤ 1000000 * 1000000 := Int.mul_le_mul_of_nonneg_left h1 (by decide)
      omega
    omega
  · unfold PySem.Builtin.Str.tooLong
    rw [decide_eq_false]
    have : (tx l).length * n.toNat ≤ 1000000 := fit
    have e : (2 : Nat) ^ 24 = 16777216 := by decide
    omega
  · have val : ∀ (z : Str), z = tx (List.replicate n.toNat l).flatten → ∀ tt k, EP X pins σ Q (.str z tt) { s with toks := k } := fun z e tt k => ⟨.str _, H, I.tok k, ⟨tt, by rw [e]⟩, q⟩
    split
    · rename_i hlt
      have n0 : n.toNat = 0 := by omega
      exact ⟨by decide, val _ (by rw [n0]; rfl) _ _⟩
    · split
      · rename_i hlt hone
        rcases Bool.or_eq_true_iff.mp hone with e | e
        · have : n = 1 := by simpa using e
          subst this
          exact val _ (by show tx l = tx ([l].flatten); simp) t s.toks
        · have hz : l.length = 0 := by rw [← tx_len]; simpa using e
          have hl : l = [] := List.length_eq_zero_iff.mp hz
          subst hl
          exact val _ (by congr 1; simp) t s.toks
      · have eq : (⟨(List.replicate n.toNat (tx l).cps).foldl (· ++ ·) #[]⟩ : Str) = tx (List.replicate n.toNat l).flatten := by
          rw [tx_of (⟨(List.replicate n.toNat (tx l).cps).foldl (· ++ ·) #[]⟩ : Str)]
          congr 1
          rw [fold_app]
          simp [tx]
        refine ⟨?_, val _ eq _ _⟩
        rw [eq, tx_len, List.length_flatten, List.map_replicate, List.sum_replicate_nat]
        rw [tx_len] at fit
        rw [Nat.mul_comm]
        omega
end
/-! ### words -/
def sg (b : Bool) : Nat := if b then 117 else 100
def wd (l : List Bool) : Str := tx (l.map sg)
theorem wd_len (l : List Bool) : (wd l).length = l.length := by unfold wd; rw [tx_len, List.length_map]
theorem wd_cons (b : Bool) : wd [b] = ⟨#[sg b]⟩ := rfl
theorem wd_inj {l m : List Bool} (h : wd l = wd m) : l = m := by
  have h1 : (wd l).cps.toList = (wd m).cps.toList := by rw [h]
  unfold wd at h1
  rw [tx_list, tx_list] at h1
  have inj : ∀ {l m : List Bool}, l.map sg = m.map sg → l = m := by
    intro l
    induction l with
    | nil => intro m h; cases m with | nil => rfl | cons _ _ => cases h
    | cons a l ih =>
      intro m h
      cases m with
      | nil => cases h
      | cons b m =>
        rw [List.map_cons, List.map_cons] at h
        injection h with h2 h3
        have : a = b := by cases a <;> cases b <;> first | rfl | (exact absurd h2 (by decide))
        rw [this, ih h3]
  exact inj h1
theorem wd_rev (l : List Bool) : tx ((l.map sg).reverse) = wd l.reverse := by unfold wd; rw [List.map_reverse]
end RFI
end
-- part RWd
section
set_option Elab.async false
set_option linter.all false
set_option maxRecDepth 100000
set_option maxHeartbeats 2000000
namespace RFI
open PySem PySem.Spec PyProof.Rows L2 TL
theorem count_word : ∀ l : List Bool, cnt 117 (l.map sg) + cnt 100 (l.map sg) = (l.length : Int)
  | [] => by decide
  | b :: l => by
    have ih := count_word l
    cases b
    · show cnt 117 (100 :: l.map sg) + cnt 100 (100 :: l.map sg) = _
      rw [cnt_cons, cnt_cons, if_neg (by decide), if_pos rfl, List.length_cons]; omega
    · show cnt 117 (117 :: l.map sg) + cnt 100 (117 :: l.map sg) = _
      rw [cnt_cons, cnt_cons, if_pos rfl, if_neg (by decide), List.length_cons]; omega
theorem joinL_nil : ∀ ys : List (List Nat), joinL [] ys = ys.flatten
  | [] => rfl
  | [p] => by simp [joinL]
  | p :: q :: r => by
    have ih := joinL_nil (q :: r)
    show p ++ ([] ++ joinL [] (q :: r)) = _
    rw [ih, List.nil_append]; rfl
theorem join_tx (ys : List (List Nat)) : Txt.join (Str.ofString "") (ys.map tx) = tx ys.flatten := by
  apply ext_tl
  rw [join_eq, tl_join, show tl (Str.ofString "") = [] from rfl, joinL_nil, List.map_map]
  show ((ys.map (fun l => (tx l).cps.toList)).flatten) = (tx ys.flatten).cps.toList
  rw [tx_list]
  congr 1
  rw [show (fun l => (tx l).cps.toList) = id from funext fun l => tx_list l, List.map_id]
/-- letters joined -/
theorem join_wd (l : List Bool) : Txt.join (Str.ofString "") (l.map fun b => wd [b]) = wd l := by
  have e : (l.map fun b => wd [b]) = (l.map fun b => [sg b]).map tx := by rw [List.map_map]; rfl
  rw [e, join_tx]
  unfold wd
  congr 1
  induction l with
  | nil => rfl
  | cons b l ih => rw [List.map_cons, List.flatten_cons, ih (by rw [List.map_map]; rfl)]; rfl
/-- words joined -/
theorem join_wds (ls : List (List Bool)) : Txt.join (Str.ofString "") (ls.map wd) = wd ls.flatten := by
  have e : ls.map wd = (ls.map fun l => l.map sg).map tx := by rw [List.map_map]; rfl
  rw [e, join_tx]
  unfold wd
  rw [List.map_flatten]
theorem wd_app (a b : List Bool) : wd a ++ wd b = wd (a ++ b) := by
  apply ext_tl
  show ((wd a).cps ++ (wd b).cps).toList = _
  unfold wd
  rw [Array.toList_append, tx_list, tx_list, List.map_append]
  exact (tx_list _).symm
/-- keeping what stood -/
def SameP (P : Addr) (H H' : Hp) : Prop := ∀ b o, b ≠ P → H b = some o → H' b = some o
end RFI
end
-- part KLib
section
set_option Elab.async false
set_option linter.all false
set_option maxRecDepth 100000
set_option maxHeartbeats 4000000
namespace K1
open PySem PySem.Spec PyProof.Rows L2 RFI
/-- names of built-ins that the text leaves alone; two it imports -/
structure Nm (mg : Str → Option Value) : Prop where
  isi : mg "isinstance" = none
  str : mg "str" = none
  len : mg "len" = none
  list : mg "list" = none
  all : mg "all" = none
  sum : mg "sum" = none
  int : mg "int" = none
  bool : mg "bool" = none
  range : mg "range" = none
  enum : mg "enumerate" = none
  max : mg "max" = none
  abs : mg "abs" = none
  acc : mg "accumulate" = some (.type "itertools.accumulate")
  pw : mg "pairwise" = some (.type "itertools.pairwise")
section
variable {P : Program} {w : World} {K : PySem.W.Frag} {mg : Str → Option Value} {base : Heap}
def spCw : Sp := fun vs H Q _ => ∃ l : List Bool, vs = [.str (wd l)] ∧ l.length ≤ 1000 ∧ Q .non H
def spWb (K : PySem.W.Frag) : Sp := fun vs H Q _ => ∃ (a : Addr) (ws : List Int) (b : Bool), vs = [.ref a, .str (wd [b])] ∧ SqL K H a (ws.map V.int) ∧ ws.length ≤ 1000 ∧ ∀ H' p, Same H H' → H p = none → H' p = some (.lst ((RF.step b ws).map V.int)) → Q (.ref p) H'
theorem psum_pre : ∀ (ns : List Int) (s : Int), (psum ns).map (s + ·) = RF.pre s ns
  | [], _ => rfl
  | x :: r, s => by
    have ih := psum_pre r (s + x)
    unfold psum at *
    rw [List.length_cons, List.range_succ_eq_map, List.map_cons, List.map_cons, List.map_map, List.map_map]
    show (s + (x :: r.take 0).sum) :: _ = (s + x) :: RF.pre (s + x) r
    rw [← ih, List.map_map]
    congr 1
    · simp
    · apply List.map_congr_left
      intro i _
      show s + ((x :: r).take (i + 1 + 1)).sum = s + x + (r.take (i + 1)).sum
      rw [List.take_succ_cons, List.sum_cons]; omega
theorem psum_pre0 (ns : List Int) : psum ns = RF.pre 0 ns := by
  have h := psum_pre ns 0
  rw [← h, show (fun x : Int => 0 + x) = id from funext fun x => Int.zero_add x, List.map_id]
theorem same_upd {H : Hp} {p : Addr} {o : HO} (h : H p = none) : Same H (upd H p o) := fun b x e => by
  rw [upd_ne (ne_of_none e h)]
  exact e
/-- ways_of: a new list, by the last number -/
def spWy : Sp := fun vs H Q _ => ∃ l : List Bool, vs = [.str (wd l)] ∧ l.length ≤ 900 ∧ ∀ H' p, Same H H' → H p = none → H' p = some (.lst ((RF.run l [1]).map V.int)) → Q (.ref p) H'
def spCo : Sp := fun vs H Q _ => ∃ l : List Bool, vs = [.str (wd l)] ∧ l.length ≤ 900 ∧ ∀ H', Same H H' → Q (.int (RF.cnt l)) H'
/-- a loop over a word's letters -/
theorem for_word {l : List Bool} {g : TG} {tb : TS} {D : Ends} {σ : L2.St} {H : Hp} (Pv : Nat → L2.St → Hp → Prop) (h0 : Pv 0 σ H)
    (hs : ∀ i b σ H, l[i]? = some b → Pv i σ H → g (.str (wd [b])) σ H fun σ2 H2 => tb { D with nx := Pv (i + 1), ct := Pv (i + 1), bk := D.nx } σ2 H2) (hd : ∀ σ H, Pv l.length σ H → D.nx σ H) :
    ∃ W : Nat → Nat → L2.St → Hp → Prop, (∃ m, W 0 m σ H) ∧ ∀ i m σ H, W i m σ H →
      ((Its (wd l)).stop i H ∧ D.nx σ H) ∨ ((Its (wd l)).go i H ∧ ∃ N : L2.St → Hp → Prop, (∀ σ' H', N σ' H' → ∃ m', m' < m ∧ W (i + 1) m' σ' H') ∧ ∀ v H', (Its (wd l)).yld i H v H' → g v σ H' fun σ2 H2 => tb { D with nx := N, ct := N, bk := D.nx } σ2 H2) := by
  have hcs : (wd l).cps.size = l.length := by
    show (wd l).length = _
    rw [wd_len]
  refine ⟨fun i m σ H => m = l.length - i ∧ i ≤ l.length ∧ Pv i σ H, ⟨_, rfl, Nat.zero_le _, h0⟩, ?_⟩
  rintro i m σ H ⟨rfl, hi, p⟩
  by_cases hlt : i < l.length
  · refine .inr ⟨show i < (wd l).cps.size by rw [hcs]; exact hlt, Pv (i + 1), fun σ' H' p' => ⟨l.length - (i + 1), by omega, rfl, hlt, p'⟩, fun v H' y => ?_⟩
    obtain ⟨rfl, c, hc, rfl⟩ := y
    have hb : l[i]? = some l[i] := List.getElem?_eq_getElem hlt
    have ec : c = sg l[i] := by
      have h2 : (wd l).cps.toList[i]? = some c := by rw [Array.getElem?_toList]; exact hc
      unfold wd at h2
      rw [tx_list, List.getElem?_map, hb] at h2
      exact (Option.some.inj h2).symm
    subst ec
    exact hs i l[i] σ _ hb p
  · have e : i = l.length := by omega
    subst e
    exact .inl ⟨show (wd l).cps.size ≤ l.length by rw [hcs]; exact Nat.le_refl _, hd σ H p⟩
theorem run_take {l : List Bool} {i : Nat} {b : Bool} (h : l[i]? = some b) (ws : List Int) : RF.run (l.take (i + 1)) ws = RF.step b (RF.run (l.take i) ws) := by
  rw [List.take_add_one, h, RF.run_app]
  rfl
theorem nofree_of {names : List (Str × NameKind)} {R : Str × NameKind → Prop} (h : (names.all fun y => match y.2 with | .free => false | _ => true) = true) : ∀ y ∈ names, y.2 = .free → R y := fun y hy e => by
  have q := List.all_eq_true.mp h y hy
  rw [e] at q
  cases q
/-- as F.ok, its code object known -/
theorem okT {x qual : Str} {st : Stmt} {f c : Addr} {fd : FuncData} {N ps : List Str} {k : Nat} {sp : Sp} (F : Fun K x qual st f fd) (hc : fd.code = .ref c) (S : FnScope N ps (defScope st)) (len : ∀ vs H Q E, sp vs H Q E → vs.length = ps.length)
    (hbody : ∀ (A : Around) (outer : List Env) (s : Shared) (H : Hp) (vs : List V) (Q : VK) (E : XK), Room k (A.deeper (envOfC qual (defScope st) s.heap.objs.size f (.ref c))) → sp vs H Q E →
      ∃ t, PSs (cxOf CX0 P w K mg base N qual (defScope st) f (.ref c) A outer s H E).nox (defBody st) t ∧ t { nx := fun _ H' => Q .non H', rt := Q } (start N vs) H) : FnOk P w K mg base CX0 (k + 1) f fd ps sp := by
  obtain ⟨oc, od, kV, doc, pm, an, cdv, ct, osl, rfl, lk, hcd⟩ := F.ex
  have e : cdv = .ref c := hc
  subst e
  refine fn_of lk hcd S len fun A outer s H vs Q E hr hsp => ?_
  obtain ⟨t, h, q⟩ := hbody A outer s H vs Q E hr hsp
  exact ⟨t, h.nox, q⟩
/-- a list's type -/
theorem ty_list {H : Hp} {a : Addr} {xs : List V} (h : SqL K H a xs) : TyX K H (.ref a) (.type "list") := by
  rcases h with (h | ⟨o, h⟩) | ⟨o, its, n, hk, hc, _⟩
  · exact .base (.lst h)
  · exact .base (.frz h)
  · exact .kList hk hc
theorem sq_tab {H H' : Hp} {a T : Addr} {xs : List V} (ht : GxR.TabG H T) (h : SqL K H a xs) (k : SameP T H H') : SqL K H' a xs := by
  obtain ⟨ps, hP, _⟩ := ht
  rcases h with (h | ⟨o, h⟩) | h
  · exact .inl (.inl (k _ _ (ne_of h hP (fun z => by cases z)) h))
  · exact .inl (.inr ⟨o, k _ _ (ne_of h hP (fun z => by cases z)) h⟩)
  · exact .inr h
theorem cl_tab {H H' : Hp} {a T : Addr} {xs : List V} (ht : GxR.TabG H T) (h : ClAt K H a xs) (k : SameP T H H') : ClAt K H' a xs := by
  obtain ⟨ps, hP, _⟩ := ht
  rcases h with ⟨o, h | h, c⟩ | h
  · exact .inl ⟨o, .inl (k _ _ (ne_of h hP (fun z => by cases z)) h), c⟩
  · exact .inl ⟨o, .inr h, c⟩
  · exact .inr h
theorem clI_tab {H H' : Hp} {a T : Addr} {xs : List V} (ht : GxR.TabG H T) (h : ClI K H a xs) (k : SameP T H H') : ClI K H' a xs := by
  obtain ⟨ps, hP, _⟩ := ht
  rcases h with ⟨o, h | h, c⟩ | h
  · exact .inl ⟨o, .inl (k _ _ (ne_of h hP (fun z => by cases z)) h), c⟩
  · exact .inl ⟨o, .inr h, c⟩
  · exact .inr h
theorem tabbed_same {H H' : Hp} {T : Addr} (h : GxR.Tabbed T H H') : SameP T H H' := fun b o hb e => (h.2 b hb).trans e
theorem SameP.trans {H H1 H2 : Hp} {T : Addr} (a : SameP T H H1) (b : SameP T H1 H2) : SameP T H H2 := fun c o hc e => b c o hc (a c o hc e)
theorem Same.toP {H H' : Hp} {T : Addr} (h : Same H H') : SameP T H H' := fun b o _ e => h b o e
theorem tab_same {H H' : Hp} {T : Addr} (ht : GxR.TabG H T) (h : Same H H') : GxR.TabG H' T := let ⟨ps, e, t⟩ := ht; ⟨ps, h _ _ e, t⟩
def spCr (K : PySem.W.Frag) (T : Addr) : Sp := fun vs H Q _ => ∃ (a : Addr) (ns : List Int), vs = [.ref a] ∧ SqL K H a (ns.map V.int) ∧ GxR.TabG H T ∧ ∀ H', SameP T H H' → GxR.TabG H' T → Q .non H'
def byOf : List Int → List Bool
  | x :: y :: r => decide (x < y) :: byOf (y :: r)
  | _ => []
theorem byOf_len : ∀ ns : List Int, (byOf ns).length = ns.length - 1
  | [] => rfl
  | [_] => rfl
  | x :: y :: r => by
    show (byOf (y :: r)).length + 1 = _
    rw [byOf_len (y :: r)]
    simp
theorem byOf_get : ∀ (ns : List Int) (i : Nat) (x y : Int), ns[i]? = some x → ns[i + 1]? = some y → (byOf ns)[i]? = some (decide (x < y))
  | [], _, _, _, h, _ => by simp at h
  | [_], 0, _, _, _, h => by simp at h
  | [_], i + 1, _, _, h, _ => by simp at h
  | a :: b :: r, 0, x, y, h, h2 => by
    have e1 : a = x := Option.some.inj h
    have e2 : b = y := Option.some.inj h2
    rw [← e1, ← e2]
    rfl
  | a :: b :: r, i + 1, x, y, h, h2 => byOf_get (b :: r) i x y h h2
def spWo (K : PySem.W.Frag) (T : Addr) : Sp := fun vs H Q _ => ∃ (a : Addr) (ns : List Int), vs = [.ref a] ∧ SqL K H a (ns.map V.int) ∧ ClI K H a (ns.map V.int) ∧ GxR.TabG H T ∧ 1 ≤ ns.length ∧ ns.length ≤ 900 ∧
  (∀ (i : Nat) (x y : Int), ns[i]? = some x → ns[i + 1]? = some y → x ≠ y) ∧ ∀ H', SameP T H H' → GxR.TabG H' T → Q (.str (wd (byOf ns))) H'
end
abbrev nLc : List Str := ["_law_word_here", "_law_last", "_law_letter", "_law_sums", "_law_many"]
abbrev nBy : List Str := ["_law_row", "_law_k"]
section
variable {P : Program} {w : World} {K : PySem.W.Frag} {mg : Str → Option Value} {base : Heap}
def spCa (K : PySem.W.Frag) : Sp := fun vs H Q _ => ∃ (a : Addr) (ns : List Int) (k : Nat), vs = [.ref a, .int (k : Int)] ∧ SqL K H a (ns.map V.int) ∧ Q (.int (ns.getD k 0)) H
def spDr : Sp := fun vs H Q _ => ∃ (c : Int) (k : Nat) (m : Int), vs = [.int c, .int (k : Int), .int m] ∧ k < 16 ∧ 0 < m ∧ ∀ r H', 0 ≤ r → r < m → Same H H' → Q (.int r) H'
def pr16 : List Int := [1000003, 1000033, 1000037, 1000039, 1000081, 1000099, 1000117, 1000121, 1000133, 1000151, 1000159, 1000171, 1000183, 1000187, 1000193, 1000199]
def spWh : Sp := fun vs H Q _ => ∃ n : Int, vs = [.int n] ∧ Q (.bl true) H
theorem pre_last (a : List Int) : ∃ r, (0 :: RF.pre 0 a) = r ++ [a.sum] := by
  have h : ∀ (a : List Int) (s : Int), ∃ r, (s :: RF.pre s a) = r ++ [s + a.sum] := by
    intro a
    induction a with
    | nil => intro s; exact ⟨[], by show [s] = [] ++ [s + 0]; rw [Int.add_zero]; rfl⟩
    | cons x t ih =>
      intro s
      obtain ⟨r, e⟩ := ih (s + x)
      refine ⟨s :: r, ?_⟩
      show s :: ((s + x) :: RF.pre (s + x) t) = _
      rw [e, List.sum_cons, Int.add_assoc]
      rfl
  obtain ⟨r, e⟩ := h a 0
  exact ⟨r, by rw [e, Int.zero_add]⟩
theorem pre_snoc {ws : List Int} {j : Nat} {x : Int} (h : ws[j]? = some x) : RF.pre 0 (ws.take (j + 1)) = RF.pre 0 (ws.take j) ++ [(ws.take j).sum + x] := by
  rw [List.take_add_one, h]
  show RF.pre 0 (ws.take j ++ [x]) = _
  rw [RF.pre_app]
  show _ ++ [0 + (ws.take j).sum + x] = _
  rw [Int.zero_add]
theorem at_last (a : List Int) : atI ((0 :: RF.pre 0 a).map V.int) (-1) = some (V.int a.sum) := by
  obtain ⟨r, e⟩ := pre_last a
  rw [e, List.map_append]
  exact atI_last _ _
def spLc : Sp := fun vs H Q _ => ∃ l : List Bool, vs = [.str (wd l)] ∧ l.length ≤ 900 ∧ ∀ H', Same H H' → Q (.int (RF.cnt l)) H'
theorem letters_sum (l : List Bool) : ((l.map fun b => wd [b]).map fun x => x.length).sum = l.length := by
  rw [List.map_map]
  have e1 : (l.map ((fun x => x.length) ∘ fun b => wd [b])) = List.replicate l.length 1 := by
    rw [List.eq_replicate_iff]
    refine ⟨List.length_map .., fun b hb => ?_⟩
    obtain ⟨c, _, rfl⟩ := List.mem_map.mp hb
    exact wd_len [c]
  rw [e1, List.sum_replicate_nat]
  omega
def spBy (K : PySem.W.Frag) : Sp := fun vs H Q _ => ∃ (a : Addr) (ns : List Int), vs = [.ref a] ∧ SqL K H a (ns.map V.int) ∧ ns.length ≤ 900 ∧ ∀ H', Same H H' → Q (.str (wd (byOf ns))) H'
end
abbrev nOr : List Str := ["_law_many", "_law_found", "_law_at", "_law_more", "_law_order", "_law_k"]
def ins (n : Nat) (o : List Int) (k : Nat) : List Int := o.take k ++ [(n : Int)] ++ o.drop k
def insAll (n : Nat) (o : List Int) : List (List Int) := (List.range (n + 1)).map (ins n o)
def perms : Nat → List (List Int)
  | 0 => [[]]
  | n + 1 => (perms n).flatMap (insAll n)
theorem perms_few : ∀ n, n < 6 → (perms n).length ≤ 120 := by decide +kernel
theorem perms_each : ∀ n, n < 6 → ∀ r ∈ perms n, r.length = n := by decide +kernel
theorem cut_take (xs : List V) (k : Nat) : cutV xs none (some (k : Int)) = xs.take k := by
  unfold cutV
  rw [HT.sIx_nat, HT.sIx_none, Nat.sub_zero, List.drop_zero]
  exact (List.take_eq_take_min).symm
theorem cut_drop (xs : List V) (k : Nat) : cutV xs (some (k : Int)) none = xs.drop k := by
  unfold cutV
  rw [HT.sIx_nat, HT.sIx_none]
  by_cases h : k ≤ xs.length
  · rw [Nat.min_eq_left h, List.take_of_length_le (by rw [List.length_drop]; exact Nat.le_refl _)]
  · rw [Nat.min_eq_right (by omega), List.drop_of_length_le (Nat.le_refl _), List.drop_of_length_le (by omega)]
    simp
/-- the lists at these places hold these rows -/
inductive Rw (H : Hp) : List Addr → List (List Int) → Prop
  | nil : Rw H [] []
  | cons {a : Addr} {r : List Int} {as : List Addr} {rs : List (List Int)} : H a = some (.lst (r.map V.int)) → Rw H as rs → Rw H (a :: as) (r :: rs)
theorem Rw.same {H H' : Hp} (s : Same H H') : ∀ {as rs}, Rw H as rs → Rw H' as rs
  | _, _, .nil => .nil
  | _, _, .cons h t => .cons (s _ _ h) (t.same s)
theorem Rw.app {H : Hp} : ∀ {as rs bs qs}, Rw H as rs → Rw H bs qs → Rw H (as ++ bs) (rs ++ qs)
  | _, _, _, _, .nil, u => u
  | _, _, _, _, .cons h t, u => .cons h (t.app u)
theorem Rw.len {H : Hp} : ∀ {as rs}, Rw H as rs → as.length = rs.length
  | _, _, .nil => rfl
  | _, _, .cons _ t => by rw [List.length_cons, List.length_cons, t.len]
theorem Rw.get {H : Hp} : ∀ {as rs}, Rw H as rs → ∀ (i : Nat) (a : Addr), as[i]? = some a → ∃ r, rs[i]? = some r ∧ H a = some (.lst (r.map V.int))
  | _, _, .nil, _, _, h => by simp at h
  | _, _, .cons h t, 0, _, e => by cases e; exact ⟨_, rfl, h⟩
  | _, _, .cons h t, i + 1, a, e => t.get i a e
theorem Rw.upd {H : Hp} {D : Addr} {o : HO} : ∀ {as rs}, (∀ c ∈ as, c ≠ D) → Rw H as rs → Rw (upd H D o) as rs
  | _, _, _, .nil => .nil
  | _, _, n, .cons h t => .cons (by rw [upd_ne (n _ List.mem_cons_self)]; exact h) (Rw.upd (fun c hc => n c (List.mem_cons_of_mem _ hc)) t)
theorem map_get {α β : Type} {f : α → β} {l : List α} {i : Nat} {y : β} (h : (l.map f)[i]? = some y) : ∃ x, l[i]? = some x ∧ f x = y := by
  rw [List.getElem?_map] at h
  cases e : l[i]? with
  | none => rw [e] at h; cases h
  | some x => rw [e] at h; exact ⟨x, rfl, Option.some.inj h⟩
theorem flat_snoc {α β : Type} (f : α → List β) {l : List α} {i : Nat} {x : α} (h : l[i]? = some x) : (l.take (i + 1)).flatMap f = (l.take i).flatMap f ++ f x := by
  rw [List.take_add_one, h, List.flatMap_append]
  simp
theorem flat_len {α β : Type} (f : α → List β) (l : List α) (i : Nat) : ((l.take i).flatMap f).length ≤ (l.flatMap f).length := by
  have e : l.flatMap f = (l.take i).flatMap f ++ (l.drop i).flatMap f := by rw [← List.flatMap_append, List.take_append_drop]
  rw [e, List.length_append]
  exact Nat.le_add_right _ _
section
variable {P : Program} {w : World} {K : PySem.W.Frag} {mg : Str → Option Value} {base : Heap}
def spOr : Sp := fun vs H Q _ => ∃ n : Nat, vs = [.int (n : Int)] ∧ n ≤ 5 ∧ ∀ p as H', Same H H' → H' p = some (.lst (as.map V.ref)) → Rw H' as (perms n) → Q (.ref p) H'
end
def wordsOf : Nat → List (List Bool)
  | 0 => [[]]
  | n + 1 => (wordsOf n).flatMap fun w => [true :: w, false :: w]
theorem mem_words : ∀ w : List Bool, w ∈ wordsOf w.length
  | [] => List.mem_singleton.mpr rfl
  | b :: w => by
    have ih := mem_words w
    show b :: w ∈ (wordsOf w.length).flatMap _
    rw [List.mem_flatMap]
    refine ⟨w, ih, ?_⟩
    cases b <;> simp
def tally (w : List Bool) : Nat := ((perms (w.length + 1)).filter fun r => decide (byOf r = w)).length
theorem few_raw : ∀ n, n < 5 → ∀ w ∈ wordsOf n, RF.cnt w = (((perms (n + 1)).filter fun r => decide (byOf r = w)).length : Int) := by decide +kernel
theorem few_all (w : List Bool) (h : w.length ≤ 4) : RF.cnt w = (tally w : Int) := few_raw w.length (by omega) w (mem_words w)
theorem two_at {z : Str} (hz : z.cps.toList = [117, 100] ∨ z.cps.toList = [100, 117]) {i : Int} (h0 : 0 ≤ i) (h1 : i < 2) : ∃ b : Bool, atI z.cps.toList i = some (sg b) := by
  have e : i = ((i.toNat : Nat) : Int) := by omega
  have hi : i.toNat = 0 ∨ i.toNat = 1 := by omega
  rw [e]
  rcases hz with hz | hz <;> rw [hz] <;> rcases hi with hi | hi <;> rw [hi]
  · exact ⟨true, atI_nat rfl⟩
  · exact ⟨false, atI_nat rfl⟩
  · exact ⟨false, atI_nat rfl⟩
  · exact ⟨true, atI_nat rfl⟩
theorem ud_two : (Str.ofString "ud").cps.toList = [117, 100] := by decide +kernel
theorem du_two : (Str.ofString "du").cps.toList = [100, 117] := by decide +kernel
theorem at_end {ns : List Int} (h : ns ≠ []) : ∃ v, atI (ns.map V.int) (-1) = some (V.int v) := by
  refine ⟨ns.getLast h, ?_⟩
  have e : ns = ns.dropLast ++ [ns.getLast h] := (List.dropLast_concat_getLast h).symm
  rw [show ns.map V.int = (ns.dropLast ++ [ns.getLast h]).map V.int by rw [← e], List.map_append]
  exact atI_last _ _
theorem cut_word (l : List Bool) (k : Nat) : cutS (wd l) none (some (k : Int)) = wd (l.take k) := by
  unfold cutS
  rw [HT.sIx_nat, HT.sIx_none, Nat.sub_zero, List.drop_zero]
  have hl : (wd l).length = l.length := wd_len l
  have hc : (wd l).cps.toList = l.map sg := by unfold wd; rw [tx_list]
  rw [hl, hc]
  unfold wd tx
  congr 1
  rw [List.map_take]
  have e : (l.map sg).take (min k l.length) = (l.map sg).take k := by
    rw [show l.length = (l.map sg).length by rw [List.length_map]]
    exact (List.take_eq_take_min).symm
  rw [e]
theorem rep_wd (b : Bool) (n : Nat) : tx (List.replicate n [sg b]).flatten = wd (List.replicate n b) := by
  unfold wd
  congr 1
  rw [List.map_replicate]
  induction n with
  | zero => rfl
  | succ n ih => rw [List.replicate_succ, List.replicate_succ, List.flatten_cons, ih]; rfl
theorem dp_ints {H : Hp} {K : PySem.W.Frag} : ∀ ns : List Int, DpAll K H (ns.map V.int) (ns.map PyData.int)
  | [] => .nil
  | n :: r => .cons (.int n) (dp_ints r)
theorem dp_list {H : Hp} {K : PySem.W.Frag} {a : Addr} {ns : List Int} (h : SqL K H a (ns.map V.int)) : Dp K H (.ref a) (.list (ns.map PyData.int)) := .lst h (dp_ints ns)
theorem ints_refl (ns : List Int) : PyData.eqv (.list (ns.map PyData.int)) (.list (ns.map PyData.int)) = true :=
  PySem.SeqAt.eqv_refl _ (PySem.SeqAt.canLay_of_shaped (PySem.W.shaped_ints ns))
abbrev nLw : List Str := ["_law_script", "_law_kind", "_law_word_here", "_law_left", "_law_k", "_law_cell"]
theorem words_sum (ws : List (List Bool)) (c : Nat) (h : ∀ x ∈ ws, x.length ≤ c) : ((ws.map wd).map fun x => x.length).sum ≤ ws.length * c := by
  induction ws with
  | nil => exact Nat.zero_le _
  | cons x r ih =>
    rw [List.map_cons, List.map_cons, List.sum_cons, List.length_cons, wd_len, Nat.succ_mul]
    have h1 := h x List.mem_cons_self
    have h2 := ih fun y hy => h y (List.mem_cons_of_mem _ hy)
    omega
theorem flat_le (ws : List (List Bool)) (c : Nat) (h : ∀ x ∈ ws, x.length ≤ c) : ws.flatten.length ≤ ws.length * c := by
  induction ws with
  | nil => exact Nat.zero_le _
  | cons x r ih =>
    rw [List.flatten_cons, List.length_append, List.length_cons, Nat.succ_mul]
    have h1 := h x List.mem_cons_self
    have h2 := ih fun y hy => h y (List.mem_cons_of_mem _ hy)
    omega
/-- a statement, then the rest from a word between -/
def tMid (t u : TS) : TS := fun D σ H => ∃ Mid : L2.St → Hp → Prop, t { D with nx := Mid } σ H ∧ ∀ σ' H', Mid σ' H' → u D σ' H'
theorem pss_mid {X : Cx} {st : Stmt} {rest : List Stmt} {t u : TS} (h1 : PS X st t) (h2 : PSs X rest u) : PSs X (st :: rest) (tMid t u) := by
  refine ⟨fun pins s σ H D I h => ?_⟩
  obtain ⟨Mid, hm, hu⟩ := h
  refine wpAny_execs_cons (thn (h1.run pins s σ H { D with nx := Mid } I hm) fun f s1 q => ?_)
  cases f with
  | next =>
    obtain ⟨σ', H', I', q⟩ := q
    exact h2.run pins s1 σ' H' D I' (hu σ' H' q)
  | ret v => exact q
  | brk => exact q
  | cont => exact q
section
variable {P : Program} {w : World} {K : PySem.W.Frag} {mg : Str → Option Value} {base : Heap}
def spLw (K : PySem.W.Frag) : Sp := fun vs H Q _ => ∃ (a : Addr) (ns : List Int), vs = [.ref a] ∧ SqL K H a (ns.map V.int) ∧ ∀ (l : List Bool) H', l.length ≤ 64 → Same H H' → Q (.str (wd l)) H'
end
abbrev nLaw : List Str := ["_law_script", "_law_word_here", "_law_whole_here", "_law_other", "_law_few", "_law_row", "_law_kept", "_law_letter", "_law_order", "_law_k", "_law_number"]
/-- a def of the text where its name leads -/
structure Df (K : PySem.W.Frag) (mg : Str → Option Value) (x : Str) (st : Stmt) (ps : List Str) : Type where
  f : Addr
  fd : FuncData
  F : Fun K x x st f fd
  b : Binds K fd ps []
  g : mg x = some (.ref f)
def Un (R : List Int) : Prop := ∀ (i : Nat) (x y : Int), R[i]? = some x → R[i + 1]? = some y → x ≠ y
theorem un_nil : Un [] := fun i x y h => by simp at h
theorem un_snoc {R : List Int} {y : Int} (h : Un R) (hl : ∀ x, R.getLast? = some x → x ≠ y) : Un (R ++ [y]) := by
  intro i a b ha hb
  by_cases h1 : i + 1 < R.length
  · rw [List.getElem?_append_left (by omega)] at ha
    rw [List.getElem?_append_left h1] at hb
    exact h i a b ha hb
  · have hlt : i + 1 < (R ++ [y]).length := (List.getElem?_eq_some_iff.mp hb).1
    rw [List.length_append] at hlt
    have e : i + 1 = R.length := by
      have : i + 1 < R.length + 1 := hlt
      omega
    rw [List.getElem?_append_right (by omega), e, Nat.sub_self] at hb
    have hb' : y = b := by simpa using hb
    subst hb'
    refine hl a ?_
    rw [List.getElem?_append_left (by omega)] at ha
    rw [List.getLast?_eq_getElem?, ← ha]
    congr 1
    omega
theorem get_last {R : List Int} {y : Int} : (R ++ [y]).getLast? = some y := by simp
theorem turns_tx (n : Nat) : ((List.replicate n [117, 100]).flatten).take n = (RF.turns n).map sg := by
  have h : ∀ n, ((List.replicate n [117, 100]).flatten) = (RF.turns (2 * n)).map sg := by
    intro n
    induction n with
    | zero => rfl
    | succ n ih =>
      rw [List.replicate_succ', List.flatten_append, ih, show 2 * (n + 1) = (2 * n + 1) + 1 by omega, RF.turns_succ, RF.turns_succ, List.map_append, List.map_append, List.append_assoc]
      congr 1
      have h1 : (2 * n % 2 == 0) = true := by
        have : 2 * n % 2 = 0 := by omega
        rw [this]; rfl
      have h2 : ((2 * n + 1) % 2 == 0) = false := by
        have : (2 * n + 1) % 2 = 1 := by omega
        rw [this]; rfl
      rw [h1, h2]
      rfl
  rw [h n]
  unfold RF.turns
  rw [List.map_map, List.map_map, ← List.map_take, List.take_range]
  congr 2
  omega
theorem cut_turns (n : Nat) : cutS (tx (List.replicate n [117, 100]).flatten) none (some (n : Int)) = wd (RF.turns n) := by
  unfold cutS
  rw [HT.sIx_nat, HT.sIx_none, Nat.sub_zero, List.drop_zero, tx_list]
  have hl : (tx (List.replicate n [117, 100]).flatten).length = n * 2 := by
    rw [tx_len, List.length_flatten, List.map_replicate, List.sum_replicate_nat]
    rfl
  rw [hl, Nat.min_eq_left (by omega), turns_tx]
  rfl
theorem turns_len (n : Nat) : (RF.turns n).length = n := by
  unfold RF.turns
  rw [List.length_map, List.length_range]
theorem lcC_range {n : Nat} {g : TG} {tt : TT} {te : TE} {vs : List Nat} {σ : L2.St} {H1 : Hp} {D : Addr} {Qd : Hp → Prop} (Pv : Nat → Hp → Prop) (h0 : Pv 0 (upd H1 D (.ext (clL D []))))
    (hs : ∀ i H, i < n → Pv i H → g (.int (0 + (i : Nat))) (wipe σ vs) H fun σ2 H2 => wipe σ2 vs = wipe σ vs ∧ tt σ2 H2 fun b H3 =>
      if b = true then te σ2 H3 fun y H4 => ∃ acc, H4 D = some (.ext (clL D acc)) ∧ acc.length < sizeLine ∧ Pv (i + 1) (upd H4 D (.ext (clL D (acc ++ [y])))) else Pv (i + 1) H3) (hd : ∀ H, Pv n H → Qd H) :
    ∃ W : Nat → Nat → Hp → Prop, (∃ m, W 0 m (upd H1 D (.ext (clL D [])))) ∧ ∀ i m H, W i m H →
      ((Itr 0 n).stop i H ∧ Qd H) ∨ ((Itr 0 n).go i H ∧ ∃ Nx : Hp → Prop, (∀ H', Nx H' → ∃ m', m' < m ∧ W (i + 1) m' H') ∧ ∀ x H', (Itr 0 n).yld i H x H' → g x (wipe σ vs) H' fun σ2 H2 => wipe σ2 vs = wipe σ vs ∧ tt σ2 H2 fun b H3 =>
        if b = true then te σ2 H3 fun y H4 => ∃ acc, H4 D = some (.ext (clL D acc)) ∧ acc.length < sizeLine ∧ Nx (upd H4 D (.ext (clL D (acc ++ [y])))) else Nx H3) := by
  refine ⟨fun i m H => m = n - i ∧ i ≤ n ∧ Pv i H, ⟨n, by simp, Nat.zero_le _, h0⟩, ?_⟩
  rintro i m H ⟨rfl, hi, p⟩
  by_cases hlt : i < n
  · refine .inr ⟨hlt, Pv (i + 1), fun H' p' => ⟨n - (i + 1), by omega, rfl, hlt, p'⟩, fun x H' y => ?_⟩
    obtain ⟨e, y⟩ := y
    subst e y
    exact hs i _ hlt p
  · have e : i = n := by omega
    subst e
    exact .inl ⟨Nat.le_refl _, hd H p⟩
def absI (i : Int) : Int := if i < 0 then -i else i
theorem le_abs (i : Int) : i ≤ absI i := by unfold absI; split <;> omega
theorem abs_nn (i : Int) : 0 ≤ absI i := by unfold absI; split <;> omega
theorem wd_at {l : List Bool} {j c : Nat} (h : (wd l).cps[j]? = some c) : ∃ b, l[j]? = some b ∧ c = sg b := by
  have h2 : (wd l).cps.toList[j]? = some c := by rw [Array.getElem?_toList]; exact h
  unfold wd at h2
  rw [tx_list] at h2
  obtain ⟨b, e, rfl⟩ := map_get h2
  exact ⟨b, e, rfl⟩
theorem clAt_same {K : PySem.W.Frag} {H H' : Hp} {a : Addr} {xs : List V} (h : ClAt K H a xs) (s : Same H H') : ClAt K H' a xs := by
  rcases h with ⟨o, h | h, c⟩ | h
  · exact .inl ⟨o, .inl (s _ _ h), c⟩
  · exact .inl ⟨o, .inr h, c⟩
  · exact .inr h
section
variable {P : Program} {w : World} {K : PySem.W.Frag} {mg : Str → Option Value} {base : Heap}
def spLaw (K : PySem.W.Frag) (T : Addr) : Sp := fun vs H Q _ => ∃ (a : Addr) (ns : List Int), vs = [.ref a] ∧ SqL K H a (ns.map V.int) ∧ ClAt K H a (ns.map V.int) ∧ GxR.TabG H T ∧ ns.length ≤ 63 ∧ ∀ H', Q (.bl true) H'
end
end K1
end
-- part T5
section
set_option Elab.async false
set_option linter.all false
set_option maxRecDepth 100000
namespace K5
open PySem PySem.Spec PyProof.Rows L2
def topS (i : Nat) : Stmt := PySem.Challenge.pw_risefall_k05_refused.main.body.getD i (.Pass ⟨0, 0, 0, 0⟩)
abbrev sCw : Stmt := topS 8
abbrev sIw : Stmt := topS 9
abbrev sCr : Stmt := topS 10
abbrev sWb : Stmt := topS 11
abbrev sWy : Stmt := topS 12
abbrev sCo : Stmt := topS 13
abbrev sWo : Stmt := topS 14
abbrev sCn : Stmt := topS 17
abbrev sCk : Stmt := topS 18
abbrev sWa : Stmt := topS 19
abbrev sWs : Stmt := topS 20
abbrev sLr : Stmt := topS 21
abbrev sOf : Stmt := topS 22
abbrev sNf : Stmt := topS 23
abbrev sAa : Stmt := topS 25
abbrev sAr : Stmt := topS 26
abbrev sIz : Stmt := topS 27
abbrev sIs : Stmt := topS 28
abbrev sIc : Stmt := topS 29
abbrev sIni : Stmt := inClass (topS 30) 0
abbrev sSh : Stmt := inClass (topS 30) 1
abbrev sTn : Stmt := topS 32
abbrev sLo : Stmt := topS 33
abbrev sCa : Stmt := topS 35
abbrev sDr : Stmt := topS 36
abbrev sLw : Stmt := topS 37
abbrev sLc : Stmt := topS 38
abbrev sFa : Stmt := topS 39
abbrev sWh : Stmt := topS 40
abbrev sKi : Stmt := topS 41
abbrev sWw : Stmt := topS 42
abbrev sWr : Stmt := topS 43
abbrev sTo : Stmt := topS 44
abbrev sAl : Stmt := topS 45
abbrev sOg : Stmt := topS 46
abbrev sRr : Stmt := topS 47
abbrev sLaw : Stmt := topS 48
end K5
end
-- part K5W
section
set_option Elab.async false
set_option linter.all false
set_option maxRecDepth 100000
set_option maxHeartbeats 4000000
namespace K5
open PySem PySem.Spec PyProof.Rows L2 RFI K1
theorem scCw : FnScope ["word"] ["word"] (defScope sCw) := ⟨rfl, rfl, rfl, by decide +kernel, rfl, by decide +kernel, by decide +kernel⟩
theorem scIw : FnScope ["value"] ["value"] (defScope sIw) := ⟨rfl, rfl, rfl, by decide +kernel, rfl, by decide +kernel, by decide +kernel⟩
theorem scCr : FnScope ["row"] ["row"] (defScope sCr) := ⟨rfl, rfl, rfl, by decide +kernel, rfl, by decide +kernel, by decide +kernel⟩
section
variable {P : Program} {w : World} {K : PySem.W.Frag} {mg : Str → Option Value} {base : Heap}
theorem ok_cw {f : Addr} {fd : FuncData} (F : Fun K "check_word" "check_word" sCw f fd) (N : Nm mg) : FnOk P w K mg base CX0 1 f fd ["word"] spCw := by
  refine F.ok scCw (fun vs H Q E h => ?_) (fun cdv A outer s H vs Q E hr h => ?_)
  · obtain ⟨l, rfl, _⟩ := h
    rfl
  · obtain ⟨l, rfl, hl, q⟩ := h
    refine ⟨_, pss_one (ps_if (PW.pt (pw_or (pt_not (pt_val (pe_callB call_isi (by rfl) N.isi boot_isinstance (pa_cons (pv 0) (pa_cons (pe_bltn (by rfl) N.str (u := .type "str") (v := .ty "str") (by decide +kernel) rfl) pa_nil)))))
        (pw_or1 (pt_cmpR op_ne (pe_op op_add (pe_m1 PySem.F.slot_str_count PySem.F.type_str_count mt_count (pv 0) pe_str) (pe_m1 PySem.F.slot_str_count PySem.F.type_str_count mt_count (pv 0) pe_str)) (pe_callB call_len_str (by rfl) N.len PySem.boot_len (pa_cons (pv 0) pa_nil)) (nomark _)))))
      (pss_one ps_never) pss_nil), ?_⟩
    refine ⟨_, rfl, _, _, _, _, true, rfl, .ty "str", .base (.str _), kit_ty (by decide +kernel), true, rfl, ?_⟩
    refine iteF ?_
    refine ⟨_, rfl, ⟨_, rfl⟩, _, _, rfl, rfl, _, rfl, ⟨_, rfl⟩, _, _, rfl, rfl, ?_⟩
    have ht : Txt.count (wd l) (Str.ofString "u") + Txt.count (wd l) (Str.ofString "d") = ((wd l).length : Int) := by
      rw [show (Str.ofString "u") = (⟨#[117]⟩ : Str) by decide +kernel, show (Str.ofString "d") = (⟨#[100]⟩ : Str) by decide +kernel, count_cnt, count_cnt, wd_len]
      unfold wd
      rw [tx_list]
      exact count_word l
    refine ⟨_, _, rfl, rfl, _, rfl, _, rfl, by rw [wd_len]; exact Nat.le_trans hl (by decide), ?_⟩
    exact ⟨rfl, _, rfl, iteNS (congrArg V.int ht) q⟩
end
theorem scWo : FnScope ["row", "letters", "here", "behind"] ["row"] (defScope sWo) := ⟨rfl, rfl, rfl, by decide +kernel, rfl, by decide +kernel, by decide +kernel⟩
section
variable {P : Program} {w : World} {K : PySem.W.Frag} {mg : Str → Option Value} {base : Heap}
theorem ok_cr {f c T fI : Addr} {fd fdI : FuncData} (F : Fun K "check_row" "check_row" sCr f fd) (N : Nm mg) (hc : fd.code = .ref c) (TB : GxR.TabB base mg c T) (FI : Fun K "is_whole" "is_whole" sIw fI fdI) (bI : Binds K fdI ["value"] []) (gI : mg "is_whole" = some (.ref fI)) :
    FnOk P w K mg base CX0 2 f fd ["row"] (spCr K T) := by
  refine okT F hc scCr (fun vs H Q E h => ?_) (fun A outer s H vs Q E hr h => ?_)
  · obtain ⟨a, ns, rfl, _⟩ := h
    rfl
  · obtain ⟨a, ns, rfl, hS, hT, q⟩ := h
    refine ⟨_, pss_cons (ps_if (pt_not (pt_val (pe_callB call_isi (by rfl) N.isi boot_isinstance (pa_cons (pv 0) (pa_cons (pe_bltn (by rfl) N.list (u := .type "list") (v := .ty "list") (by decide +kernel) rfl) pa_nil))))) (pss_one ps_never) pss_nil)
      (pss_one (ps_if (pt_not (pt_val (pe_allIsw FI scIw rfl rfl rfl rfl rfl bI N.isi N.int N.bool gI hr (by rfl) N.all TB rfl ⟨rfl, rfl, by decide +kernel, rfl, rfl, nofree_of rfl⟩ rfl (pv 0) (by intro _; rfl)))) (pss_one ps_never) pss_nil)), ?_⟩
    refine ⟨_, rfl, _, _, _, _, true, rfl, .ty "list", ty_list hS, kit_ty (by decide +kernel), true, rfl, ?_⟩
    refine iteF ?_
    refine ⟨_, rfl, a, ns.map V.int, ns.map (fun _ => true), rfl, hS, hT, by simp, fun i y b hy hb => ?_, fun H2 h2 => ?_⟩
    · rw [List.getElem?_map] at hy hb
      cases e : ns[i]? with
      | none => rw [e] at hy; cases hy
      | some n =>
        rw [e] at hy hb
        cases hy
        cases hb
        exact ⟨_, true, false, .int n, kit_ty (by decide +kernel), kit_ty (by decide +kernel), rfl⟩
    · have e : (ns.map (fun _ => true)).all id = true := by simp
      rw [e]
      exact ⟨true, rfl, iteF (q H2 (tabbed_same h2) h2.1)⟩
end
section
variable {P : Program} {w : World} {K : PySem.W.Frag} {mg : Str → Option Value} {base : Heap}
theorem ok_wo {f fC T : Addr} {fd fdC : FuncData} (F : Fun K "word_of" "word_of" sWo f fd) (N : Nm mg) (FC : Fun K "check_row" "check_row" sCr fC fdC) (bC : Binds K fdC ["row"] []) (gC : mg "check_row" = some (.ref fC)) (GC : FnOk P w K mg base CX0 2 fC fdC ["row"] (spCr K T)) :
    FnOk P w K mg base CX0 3 f fd ["row"] (spWo K T) := by
  refine F.ok scWo (fun vs H Q E h => ?_) (fun cdv A outer s H vs Q E hr h => ?_)
  · obtain ⟨a, ns, rfl, _⟩ := h
    rfl
  · obtain ⟨a, ns, rfl, hS, hCl, hT, hl1, hl2, hd, q⟩ := h
    refine ⟨_, pss_cons (ps_expr (pe_call GC hr (by rfl) gC FC.kp bC .nil pass0 (pa_cons (pv 0) pa_nil)))
      (pss_cons (ps_if (pt_not (pt_truth (pv 0) (by intro _; rfl))) (pss_one ps_never) pss_nil)
      (pss_cons (ps_set (i := 1) scWo.nd rfl (.inl rfl) (pe_lst pa_nil))
      (pss_cons (ps_for PassesOwn.never rfl (pi_pw (by rfl) N.pw (pa_cons (pv 0) pa_nil))
          (pg_tup rfl (pgs_cons (pg_name (i := 2) scWo.nd rfl (.inl rfl)) (pgs_cons (pg_name (i := 3) scWo.nd rfl (.inl rfl)) pgs_nil)))
        (pss_cons (ps_if (pt_cmpR op_eq (pv 2) (pv 3) (nomark _)) (pss_one ps_never) pss_nil)
        (pss_one (ps_expr (pe_bm PySem.F.plainAttrs_list PySem.F.slot_list_append PySem.F.type_list_append mt_append (pv 1) (pa_cons (pe_ifExp (pt_cmpR op_lt (pv 2) (pv 3) (nomark _)) pe_str pe_str) pa_nil))))))
      (pss_one (ps_ret (pe_join pe_str (pv 1))))))), ?_⟩
    refine ⟨_, rfl, a, ns, rfl, hS, hT, fun H1 s1 t1 => ?_⟩
    have hS1 := sq_tab hT hS s1
    have hC1 := clI_tab hT hCl s1
    have hne : (ns.map V.int).isEmpty = false := by cases ns with | nil => cases hl1 | cons _ _ => rfl
    refine ⟨_, rfl, true, .inl ⟨_, hS1, by rw [hne]; rfl⟩, ?_⟩
    refine iteF ?_
    refine ⟨Nat.zero_le _, fun o no => ?_⟩
    have s2 : SameP T H1 (upd H1 o (.lst [])) := Same.toP (same_upd no)
    refine ⟨_, rfl, a, ns.map V.int, rfl, (same_upd no).seq hS1, for_pw (fun i σ H3 => ∃ x2 x3, σ = [some (.ref a), some (.ref o), x2, x3] ∧ SameP T H1 H3 ∧ GxR.TabG H3 T ∧ H3 o = some (.lst (((byOf ns).take i).map fun b => V.str (wd [b]))))
      ⟨none, none, rfl, s2, tab_same t1 (same_upd no), by rw [upd_same]; rfl⟩ (fun i σ H3 hW => ?_) (fun i x y U σ H3 hx hy hW nU => ?_) (fun σ H3 hW => ?_)⟩
    · obtain ⟨x2, x3, rfl, s3, t3, e3⟩ := hW
      exact ⟨sq_tab t1 hS1 s3, clI_tab t1 hC1 s3⟩
    · obtain ⟨x2, x3, rfl, s3, t3, e3⟩ := hW
      rw [List.getElem?_map] at hx hy
      cases ex : ns[i]? with
      | none => rw [ex] at hx; cases hx
      | some m =>
        cases ey : ns[i + 1]? with
        | none => rw [ey] at hy; cases hy
        | some n =>
          rw [ex] at hx
          rw [ey] at hy
          cases hx
          cases hy
          have nUo : o ≠ U := ne_of_none e3 nU
          refine ⟨U, _, rfl, .inl (.inl upd_same), rfl, _, _, rfl, _, _, rfl, rfl, ?_⟩
          refine ⟨_, rfl, _, rfl, rfl, _, rfl, ite2 (fun e => absurd (V.int.inj (of_decide_eq_true e)) (hd i m n ex ey)) (fun _ => ?_)⟩
          have eo : upd H3 U (.tup [V.int m, V.int n]) o = some (.lst (((byOf ns).take i).map fun b => V.str (wd [b]))) := by rw [upd_ne nUo]; exact e3
          have fin : ∀ (z : V), z = V.str (wd [decide (m < n)]) → ∃ l xs y, V.ref o = .ref l ∧ [z] = [y] ∧ upd H3 U (.tup [V.int m, V.int n]) l = some (.lst xs) ∧ xs.length < sizeLine ∧
              (∃ x2 x3, ([some (.ref a), some (.ref o), some (V.int m), some (V.int n)] : L2.St) = [some (.ref a), some (.ref o), x2, x3] ∧ SameP T H1 (upd (upd H3 U (.tup [V.int m, V.int n])) l (.lst (xs ++ [y]))) ∧ GxR.TabG (upd (upd H3 U (.tup [V.int m, V.int n])) l (.lst (xs ++ [y]))) T ∧
                upd (upd H3 U (.tup [V.int m, V.int n])) l (.lst (xs ++ [y])) o = some (.lst (((byOf ns).take (i + 1)).map fun b => V.str (wd [b])))) := by
            intro z ez
            refine ⟨o, _, z, rfl, rfl, eo, ?_, _, _, rfl, fun b ob hb e => ?_, ?_, ?_⟩
            · rw [List.length_map, List.length_take, byOf_len]
              exact Nat.lt_of_le_of_lt (show min i (ns.length - 1) ≤ 900 by omega) (by decide)
            · have nb : b ≠ o := ne_of_none e no
              rw [upd_ne nb]
              exact same_upd nU b ob (s3 b ob hb e)
            · obtain ⟨ps, eP, hp⟩ := t3
              refine ⟨ps, ?_, hp⟩
              have nTo : T ≠ o := ne_of eP e3 (fun z => by cases z)
              rw [upd_ne nTo]
              exact same_upd nU T _ eP
            · rw [upd_same, List.take_add_one, byOf_get ns i m n ex ey, List.map_append, ez]
              rfl
          refine ⟨_, rfl, .inl ⟨rfl, _, .inl (.inl eo)⟩, _, rfl, _, rfl, m, n, rfl, rfl, _, rfl, ite2 (fun e => ?_) (fun e => ?_)⟩
          · exact fin _ (by rw [show decide (m < n) = true from e]; rfl)
          · exact fin _ (by rw [show decide (m < n) = false by simpa using e]; rfl)
    · obtain ⟨x2, x3, rfl, s3, t3, e3⟩ := hW
      rw [List.length_map, List.take_of_length_le (by rw [byOf_len]; exact Nat.le_refl _)] at e3
      refine ⟨⟨_, rfl⟩, _, rfl, _, o, (byOf ns).map (fun b => wd [b]), rfl, rfl, .inl (.inl (.inl (by rw [e3, List.map_map]; rfl))), ?_, ?_⟩
      · rw [List.map_map, List.length_map, byOf_len]
        have e1 : ((byOf ns).map (fun b => (wd [b]).length)) = List.replicate (byOf ns).length 1 := by
          rw [List.eq_replicate_iff]
          refine ⟨List.length_map .., fun b hb => ?_⟩
          obtain ⟨c, _, rfl⟩ := List.mem_map.mp hb
          exact wd_len [c]
        rw [show ((fun x => x.length) ∘ fun b => wd [b]) = (fun b => (wd [b]).length) from rfl, e1, List.sum_replicate_nat, byOf_len]
        show (ns.length - 1) * 1 + (ns.length - 1) * 0 ≤ 16777216
        omega
      · rw [join_wd]
        exact q H3 (SameP.trans s1 s3) t3
end
theorem scCa : FnScope ["_law_script", "_law_k"] ["_law_script", "_law_k"] (defScope sCa) := ⟨rfl, rfl, rfl, by decide +kernel, rfl, by decide +kernel, by decide +kernel⟩
theorem scDr : FnScope ["_law_cell", "_law_k", "_law_many", "_law_primes"] ["_law_cell", "_law_k", "_law_many"] (defScope sDr) := ⟨rfl, rfl, rfl, by decide +kernel, rfl, by decide +kernel, by decide +kernel⟩
theorem scWh : FnScope ["_law_number"] ["_law_number"] (defScope sWh) := ⟨rfl, rfl, rfl, by decide +kernel, rfl, by decide +kernel, by decide +kernel⟩
theorem scLc : FnScope nLc ["_law_word_here"] (defScope sLc) := ⟨rfl, rfl, rfl, by decide +kernel, rfl, by decide +kernel, by decide +kernel⟩
section
variable {P : Program} {w : World} {K : PySem.W.Frag} {mg : Str → Option Value} {base : Heap}
theorem ok_ca {f : Addr} {fd : FuncData} (F : Fun K "_law_cell_at" "_law_cell_at" sCa f fd) (N : Nm mg) : FnOk P w K mg base CX0 1 f fd ["_law_script", "_law_k"] (spCa K) := by
  refine F.ok scCa (fun vs H Q E h => ?_) (fun cdv A outer s H vs Q E hr h => ?_)
  · obtain ⟨a, ns, k, rfl, _⟩ := h
    rfl
  · obtain ⟨a, ns, k, rfl, hS, q⟩ := h
    refine ⟨_, pss_cons (ps_if (pt_cmpR op_lt (pv 1) (pe_callB call_len_seq (by rfl) N.len PySem.boot_len (pa_cons (pv 0) pa_nil)) (nomark _)) (pss_one (ps_ret (pe_ix ix_list (pv 0) (pv 1) (fun _ _ => rfl)))) pss_nil) (pss_one (ps_ret pe_int)), ?_⟩
    refine ⟨_, rfl, _, rfl, a, _, rfl, .inl hS, ?_⟩
    refine ⟨_, _, rfl, rfl, _, rfl, ?_⟩
    refine ite2 (fun hd => ?_) (fun hd => ?_)
    · have hk : k < ns.length := by
        have h := of_decide_eq_true hd
        rw [List.length_map] at h
        exact Int.ofNat_lt.mp h
      refine ⟨_, rfl, _, rfl, a, _, _, _, rfl, rfl, hS, atI_nat (v := V.int ns[k]) (by simp [hk]), ?_⟩
      have e : ns.getD k 0 = ns[k] := by simp [List.getD, hk]
      rw [e] at q
      exact q
    · have hk : ¬ k < ns.length := fun h => hd (decide_eq_true (by rw [List.length_map]; exact Int.ofNat_lt.mpr h))
      have e : ns.getD k 0 = 0 := by
        rw [List.getD_eq_getElem?_getD, List.getElem?_eq_none (Nat.le_of_not_lt hk)]; rfl
      rw [e] at q
      exact q
end
section
variable {P : Program} {w : World} {K : PySem.W.Frag} {mg : Str → Option Value} {base : Heap}
theorem ok_dr {f : Addr} {fd : FuncData} (F : Fun K "_law_draw" "_law_draw" sDr f fd) (N : Nm mg) : FnOk P w K mg base CX0 1 f fd ["_law_cell", "_law_k", "_law_many"] spDr := by
  refine F.ok scDr (fun vs H Q E h => ?_) (fun cdv A outer s H vs Q E hr h => ?_)
  · obtain ⟨c, k, m, rfl, _⟩ := h
    rfl
  · obtain ⟨c, k, m, rfl, hk, hm, q⟩ := h
    refine ⟨_, pss_cons (ps_set (i := 3) scDr.nd rfl (.inl rfl) (pe_tup (pa_cons pe_int (pa_cons pe_int (pa_cons pe_int (pa_cons pe_int (pa_cons pe_int (pa_cons pe_int (pa_cons pe_int (pa_cons pe_int (pa_cons pe_int (pa_cons pe_int (pa_cons pe_int (pa_cons pe_int (pa_cons pe_int (pa_cons pe_int (pa_cons pe_int (pa_cons pe_int pa_nil))))))))))))))))))
      (pss_one (ps_ret (pe_op op_modN (pe_op op_modN (pe_op op_add (pe_op op_mul (pv 0) pe_int) (pe_op op_mul (pv 1) pe_int)) (pe_ix ix_tup (pv 3) (pe_op op_modN (pv 1) pe_int) (fun _ _ => rfl))) (pv 2)))), ?_⟩
    refine ⟨by decide, fun t nt => ?_⟩
    refine ⟨_, rfl, _, _, rfl, rfl, .inr ⟨by decide, by decide⟩, ?_⟩
    refine ⟨_, rfl, _, _, rfl, rfl, .inr ⟨by decide, by decide⟩, ?_⟩
    refine ⟨_, _, rfl, rfl, _, rfl, _, rfl, _, _, rfl, rfl, (show (16 : Int) ≠ 0 by decide), ?_⟩
    have e16 : ((k : Int)).fmod 16 = (k : Int) := by rw [Int.fmod_eq_emod_of_nonneg _ (by decide)]; omega
    have hl : pr16.length = 16 := rfl
    have hpos : ∀ x ∈ pr16, x ≠ 0 := by decide
    have hk2 : k < pr16.length := by rw [hl]; exact hk
    refine ⟨t, pr16.map V.int, ((k : Int)).fmod 16, V.int pr16[k], rfl, rfl, SqT.of (by rw [upd_same]; rfl), by rw [e16]; exact atI_nat (by simp [hk2]), ?_⟩
    refine ⟨_, _, rfl, rfl, hpos _ (List.getElem_mem hk2), ?_⟩
    refine ⟨_, rfl, _, _, rfl, rfl, Int.ne_of_gt hm, ?_⟩
    refine q _ _ ?_ ?_ (same_upd nt)
    · rw [Int.fmod_eq_emod_of_nonneg _ (Int.le_of_lt hm)]; exact Int.emod_nonneg _ (Int.ne_of_gt hm)
    · exact Int.fmod_lt_of_pos _ hm
end
section
variable {P : Program} {w : World} {K : PySem.W.Frag} {mg : Str → Option Value} {base : Heap}
theorem ok_wh {f : Addr} {fd : FuncData} (F : Fun K "_law_whole" "_law_whole" sWh f fd) (N : Nm mg) : FnOk P w K mg base CX0 1 f fd ["_law_number"] spWh := by
  refine F.ok scWh (fun vs H Q E h => ?_) (fun cdv A outer s H vs Q E hr h => ?_)
  · obtain ⟨a, rfl, _⟩ := h
    rfl
  · obtain ⟨n, rfl, q⟩ := h
    refine ⟨_, pss_one (ps_ret (pe_and (pe_callB call_isi (by rfl) N.isi boot_isinstance (pa_cons (pv 0) (pa_cons (pe_bltn (by rfl) N.int (u := .type "int") (v := .ty "int") (by decide +kernel) rfl) pa_nil)))
      (pe_one (pe_not (pe_callB call_isi (by rfl) N.isi boot_isinstance (pa_cons (pv 0) (pa_cons (pe_bltn (by rfl) N.bool (u := .type "bool") (v := .ty "bool") (by decide +kernel) rfl) pa_nil))))))), ?_⟩
    refine ⟨_, rfl, _, _, _, _, true, rfl, .ty "int", .base (.int _), kit_ty (by decide +kernel), true, rfl, ?_⟩
    refine iteT ?_
    refine ⟨_, rfl, _, _, _, _, false, rfl, .ty "bool", .base (.int _), kit_ty (by decide +kernel), false, rfl, q⟩
end
section
variable {P : Program} {w : World} {K : PySem.W.Frag} {mg : Str → Option Value} {base : Heap}
theorem ok_lc {f : Addr} {fd : FuncData} (F : Fun K "_law_count" "_law_count" sLc f fd) (N : Nm mg) : FnOk P w K mg base CX0 1 f fd ["_law_word_here"] spLc := by
  refine F.ok scLc (fun vs H Q E h => ?_) (fun cdv A outer s H vs Q E hr h => ?_)
  · obtain ⟨l, rfl, _⟩ := h
    rfl
  · obtain ⟨l, rfl, hl, q⟩ := h
    have nd := scLc.nd
    refine ⟨_, pss_cons (ps_set (i := 1) nd rfl (.inl rfl) (pe_lst (pa_cons pe_int pa_nil)))
      (pss_cons (ps_for PassesOwn.never rfl (pi_str (pv 0)) (pg_name (i := 2) nd rfl (.inl rfl))
        (pss_cons (ps_set (i := 3) nd rfl (.inr rfl) (pe_lst (pa_cons pe_int pa_nil)))
        (pss_cons (ps_for PassesOwn.never rfl (pi_list (pv 1)) (pg_name (i := 4) nd rfl (.inl rfl))
          (pss_one (ps_expr (pe_bm PySem.F.plainAttrs_list PySem.F.slot_list_append PySem.F.type_list_append mt_append (pv 3) (pa_cons (pe_op op_add (pe_ix ix_list (pv 3) (pe_un un_neg pe_int) (fun _ _ => rfl)) (pv 4)) pa_nil)))))
        (pss_one (ps_set (i := 1) nd rfl (.inl rfl) (pe_ifExp (pt_cmpR op_eq (pv 2) pe_str (nomark _)) (pv 3)
          (pe_lc (own := [("_law_many", 4)]) (g := gName 4) rfl nd (pi_list (pv 3)) (blkOk_by (N := nLc) (sc := defScope sLc) (by decide +kernel)) (fun _ _ _ _ _ => pg_name (i := 4) nd rfl (Or.inl rfl)) (fun _ _ _ _ _ => pts_nil)
            (fun _ _ _ _ _ => pe_op op_sub (pe_ix (r := rIxL K) ix_list (pv 3) (pe_un un_neg pe_int) (fun _ _ => rfl)) (pv 4)))))))))
      (pss_one (ps_ret (pe_callB (cr_sum rfl) (by rfl) N.sum (by decide +kernel) (pa_cons (pv 1) pa_nil))))), ?_⟩
    have hsm : (2000 : Nat) ≤ sizeLine := by decide
    refine ⟨by decide, fun o no => ?_⟩
    refine ⟨_, rfl, _, rfl, for_word (fun i σ H3 => ∃ p v2 v3 v4, σ = [some (.str (wd l)), some (.ref p), v2, v3, v4] ∧ Same H H3 ∧ H3 p = some (.lst ((RF.run (l.take i) [1]).map V.int)))
      ⟨o, none, none, none, rfl, same_upd no, by rw [upd_same]; rfl⟩ (fun i b σ H3 hb hW => ?_) (fun σ H3 hW => ?_)⟩
    · obtain ⟨p, v2, v3, v4, rfl, sm, hp⟩ := hW
      have hi : i < l.length := (List.getElem?_eq_some_iff.mp hb).1
      generalize hws : RF.run (l.take i) [1] = ws at hp
      have hwl : ws.length ≤ 1000 := by
        rw [← hws, RF.run_len, List.length_take]
        show 1 + min i l.length ≤ 1000
        omega
      refine ⟨by decide, fun o2 no2 => ?_⟩
      refine ⟨_, rfl, p, rfl, ⟨_, (same_upd no2).seq (.inl (.inl hp))⟩, for_list (xs := ws.map V.int) (fun j σ H4 => ∃ v4, σ = [some (.str (wd l)), some (.ref p), some (.str (wd [b])), some (.ref o2), v4] ∧ Same H3 H4 ∧ H4 o2 = some (.lst ((0 :: RF.pre 0 (ws.take j)).map V.int)))
        ⟨v4, rfl, same_upd no2, by rw [upd_same]; rfl⟩ (fun j σ H4 _ hW => ?_) (fun j x σ H4 hx hW => ?_) (fun σ H4 hW => ?_)⟩
      · obtain ⟨v4, rfl, s4, _⟩ := hW
        exact s4.seq (.inl (.inl hp))
      · obtain ⟨v4, rfl, s4, ho⟩ := hW
        rw [List.getElem?_map] at hx
        cases ex : ws[j]? with
        | none => rw [ex] at hx; cases hx
        | some m =>
          rw [ex] at hx
          cases hx
          refine ⟨_, rfl, .inl ⟨rfl, _, .inl (.inl ho)⟩, _, rfl, _, rfl, o2, _, _, _, rfl, rfl, .inl (.inl ho), at_last _, ?_⟩
          refine ⟨_, rfl, _, _, rfl, rfl, o2, _, _, rfl, rfl, ho, ?_, ?_⟩
          · rw [List.length_map, List.length_cons, RF.pre_len, List.length_take]
            exact Nat.lt_of_lt_of_le (show min j ws.length + 1 < 2000 by omega) hsm
          · refine ⟨_, rfl, ?_, ?_⟩
            · intro b2 x2 e2
              have nb : b2 ≠ o2 := fun z => by
                have h1 : b2 ≠ o2 := ne_of_none e2 no2
                exact h1 z
              rw [upd_ne nb]
              exact s4 b2 x2 e2
            · rw [upd_same, pre_snoc ex]
              show some (HO.lst (_ ++ [V.int _])) = some (HO.lst ((0 :: (_ ++ [_])).map V.int))
              rw [← List.cons_append, List.map_append]
              rfl
      · obtain ⟨v4, rfl, s4, ho⟩ := hW
        rw [List.length_map, List.take_of_length_le (Nat.le_refl _)] at ho
        have S : Same H H4 := sm.trans s4
        have ho' : H4 o2 = some (.lst ((RF.stepU ws).map V.int)) := ho
        refine ⟨_, rfl, rfl, _, rfl, ite2 (fun e => ?_) (fun e => ?_)⟩
        · have hb1 : b = true := by
            cases b
            · exact absurd (of_decide_eq_true e) (by decide +kernel)
            · rfl
          subst hb1
          exact ⟨_, rfl, o2, _, some (.ref o2), v4, rfl, S, by rw [ho', run_take hb, hws]; rfl⟩
        · have hb0 : b = false := by
            cases b
            · rfl
            · exact absurd (decide_eq_true (by decide +kernel)) e
          subst hb0
          refine ⟨_, rfl, o2, rfl, ⟨_, .inl (.inl ho)⟩, fun D nD => lc_list (xs := (RF.stepU ws).map V.int) (fun j H5 => H5 D = some (.lst (((RF.stepU ws).take j).map fun v => V.int (ws.sum - v))) ∧ Same H4 H5)
            ⟨by rw [upd_same]; rfl, same_upd nD⟩ (fun j H5 _ hW => ?_) (fun j x H5 hx hW => ?_) (fun H5 hW => ?_)⟩
          · exact hW.2.seq (.inl (.inl ho))
          · obtain ⟨hD, s5⟩ := hW
            rw [List.getElem?_map] at hx
            cases ex : (RF.stepU ws)[j]? with
            | none => rw [ex] at hx; cases hx
            | some m =>
              rw [ex] at hx
              cases hx
              refine ⟨rfl, _, rfl, _, rfl, o2, _, _, _, rfl, rfl, .inl (.inl (s5 _ _ ho)), at_last _, ?_⟩
              refine ⟨_, rfl, _, _, rfl, rfl, _, hD, ?_, ?_, ?_⟩
              · rw [List.length_map, List.length_take, RF.stepU_len]
                exact Nat.lt_of_lt_of_le (show min j (ws.length + 1) < 2000 by omega) hsm
              · rw [upd_same, List.take_add_one, ex, List.map_append]
                rfl
              · intro b2 x2 e2
                have nb : b2 ≠ D := ne_of_none e2 nD
                rw [upd_ne nb]
                exact s5 b2 x2 e2
          · obtain ⟨hD, s5⟩ := hW
            refine ⟨D, _, _, _, rfl, S.trans s5, ?_⟩
            rw [List.length_map, List.take_of_length_le (Nat.le_refl _)] at hD
            rw [hD, run_take hb, hws]
            show _ = some (HO.lst ((RF.stepD ws).map V.int))
            rw [RF.stepD_map, List.map_map]
            rfl
    · obtain ⟨p, v2, v3, v4, rfl, sm, hp⟩ := hW
      refine ⟨_, rfl, p, _, rfl, .inl (.inl hp), ?_⟩
      rw [List.take_of_length_le (Nat.le_refl _)]
      exact q H3 sm
end
theorem scLw : FnScope nLw ["_law_script"] (defScope sLw) := ⟨rfl, rfl, rfl, by decide +kernel, rfl, by decide +kernel, by decide +kernel⟩
section
variable {P : Program} {w : World} {K : PySem.W.Frag} {mg : Str → Option Value} {base : Heap}
theorem ok_lw {f fC fD : Addr} {fd fdC fdD : FuncData} (F : Fun K "_law_word" "_law_word" sLw f fd) (N : Nm mg) (FC : Fun K "_law_cell_at" "_law_cell_at" sCa fC fdC) (bC : Binds K fdC ["_law_script", "_law_k"] []) (gC : mg "_law_cell_at" = some (.ref fC))
    (FD : Fun K "_law_draw" "_law_draw" sDr fD fdD) (bD : Binds K fdD ["_law_cell", "_law_k", "_law_many"] []) (gD : mg "_law_draw" = some (.ref fD)) : FnOk P w K mg base CX0 2 f fd ["_law_script"] (spLw K) := by
  have GC : FnOk P w K mg base CX0 1 fC fdC ["_law_script", "_law_k"] (spCa K) := ok_ca FC N
  have GD : FnOk P w K mg base CX0 1 fD fdD ["_law_cell", "_law_k", "_law_many"] spDr := ok_dr FD N
  refine F.ok scLw (fun vs H Q E h => ?_) (fun cdv A outer s H vs Q E hr h => ?_)
  · obtain ⟨a, ns, rfl, _⟩ := h
    rfl
  · obtain ⟨a, ns, rfl, hS, q⟩ := h
    have nd := scLw.nd
    refine ⟨_, pss_cons (ps_set (i := 0) nd rfl (.inl rfl) (pe_slice sl_list (pv 0) po_none (po_some pe_int)))
      (pss_cons (ps_set (i := 1) nd rfl (.inl rfl) (pe_call GD hr (by rfl) gD FD.kp bD .nil pass0 (pa_cons (pe_call GC hr (by rfl) gC FC.kp bC .nil pass0 (pa_cons (pv 0) (pa_cons pe_int pa_nil))) (pa_cons pe_int (pa_cons pe_int pa_nil)))))
      (pss_mid (ps_set (i := 2) nd rfl (.inl rfl) (pe_join pe_str (pe_lc (own := [("_law_cell", 5)]) (g := gName 5) rfl nd (pi_list (pv 0)) (blkOk_by (N := nLw) (sc := defScope sLw) (by decide +kernel)) (fun _ _ _ _ _ => pg_name (i := 5) nd rfl (Or.inl rfl)) (fun _ _ _ _ _ => pts_nil)
          (fun _ _ _ _ _ => pe_ix (r := rIxS) ix_str pe_str (pe_op op_mod (pv 5) pe_int) (fun _ _ => rfl)))))
      (pss_mid (ps_if (pt_cmpR op_eq (pv 1) pe_int (nomark _)) (pss_one (ps_set (i := 2) nd rfl (.inl rfl) (pe_join pe_str (pe_lc (own := [("_law_k", 4), ("_law_cell", 5)]) (g := gTup K 2 (gCons (gName 4) (gCons (gName 5) gNil))) rfl nd (pi_enum (by rfl) N.enum (pa_cons (pv 0) pa_nil)) (blkOk_by (N := nLw) (sc := defScope sLw) (by decide +kernel))
          (fun _ _ _ _ _ => pg_tup rfl (pgs_cons (pg_name (i := 4) nd rfl (Or.inl rfl)) (pgs_cons (pg_name (i := 5) nd rfl (Or.inl rfl)) pgs_nil))) (fun _ _ _ _ _ => pts_nil)
          (fun _ _ _ _ _ => pe_ifExp (pt_cmpR op_gt (pe_op op_mod (pv 5) pe_int) pe_int (nomark _)) (pe_ix (r := rIxS) ix_str pe_str (pe_op op_mod (pv 4) pe_int) (fun _ _ => rfl)) (pe_ix (r := rIxS) ix_str pe_str (pe_op op_mod (pv 4) pe_int) (fun _ _ => rfl))))))) pss_nil)
      (pss_mid (ps_if (pt_cmpR op_eq (pv 1) pe_int (nomark _)) (pss_one (ps_set (i := 2) nd rfl (.inl rfl) (pe_slice sl_str (pe_join pe_str (pe_lc (own := [("_law_cell", 5)]) (g := gName 5) rfl nd (pi_list (pv 0)) (blkOk_by (N := nLw) (sc := defScope sLw) (by decide +kernel)) (fun _ _ _ _ _ => pg_name (i := 5) nd rfl (Or.inl rfl)) (fun _ _ _ _ _ => pts_nil)
          (fun _ _ _ _ _ => pe_op op_repS (pe_ix (r := rIxS) ix_str pe_str (pe_op op_mod (pe_op op_fdiv (pv 5) pe_int) pe_int) (fun _ _ => rfl)) (pe_op op_add pe_int (pe_op op_mod (pe_op op_fdiv (pv 5) pe_int) pe_int))))) po_none (po_some pe_int)))) pss_nil)
      (pss_mid (ps_if (PW.pt (pw_and (pt_cmpR op_eq (pv 1) pe_int (nomark _)) (pw_and1 (pt_cmpR (op_neD hr.units) (pv 0) (pe_lst pa_nil) (nomark _)))))
          (pss_cons (ps_set (i := 3) nd rfl (.inl rfl) (pe_op op_fdiv (pe_ix ix_list (pv 0) (pe_un un_neg pe_int) (fun _ _ => rfl)) pe_int))
          (pss_mid (ps_for PassesOwn.never rfl (pi_range1 (by rfl) N.range (pa_cons (pe_call GD hr (by rfl) gD FD.kp bD .nil pass0 (pa_cons (pe_ix ix_list (pv 0) (pe_un un_neg pe_int) (fun _ _ => rfl)) (pa_cons pe_int (pa_cons pe_int pa_nil)))) pa_nil)) (pg_name (i := 4) nd rfl (.inl rfl))
            (pss_cons (ps_set (i := 2) nd rfl (.inl rfl) (pe_op op_add_str (pv 2) (pe_ix ix_str pe_str (pe_op op_mod (pv 3) pe_int) (fun _ _ => rfl))))
            (pss_one (ps_set (i := 3) nd rfl (.inl rfl) (pe_op op_fdiv (pv 3) pe_int)))))
          (pss_one (ps_set (i := 2) nd rfl (.inl rfl) (pe_slice sl_str (pv 2) po_none (po_some pe_int)))))) pss_nil)
      (pss_one (ps_ret (pv 2)))))))), ?_⟩
    have hsm : (2000 : Nat) ≤ sizeLine := by decide
    refine ⟨_, rfl, 63, rfl, a, _, rfl, hS, fun a1 n1 => ?_⟩
    rw [show (63 : Int) = ((63 : Nat) : Int) from rfl, cut_take, ← List.map_take] at *
    generalize hms : ns.take 63 = ms at *
    have hml : ms.length ≤ 63 := by rw [← hms, List.length_take]; exact Nat.min_le_left _ _
    refine ⟨_, rfl, a1, ms, 0, rfl, .inl (.inl upd_same), _, 6, 5, rfl, by decide, by decide, fun kd H2 hk0 hk1 s2 => ?_⟩
    have S2 : Same H H2 := (same_upd n1).trans s2
    have A2 : H2 a1 = some (.lst (ms.map V.int)) := s2 _ _ upd_same
    let M : L2.St → Hp → Prop := fun σ H' => ∃ l v3 v4 v5, σ = [some (.ref a1), some (.int kd), some (.str (wd l)), v3, v4, v5] ∧ l.length ≤ 64 ∧ Same H H' ∧ H' a1 = some (.lst (ms.map V.int))
    refine ⟨M, ?_, fun σ H3 hM => ?_⟩
    · refine ⟨⟨_, rfl⟩, _, rfl, a1, rfl, ⟨_, .inl (.inl A2)⟩, fun D nD => ?_⟩
      refine lc_list (xs := ms.map V.int) (fun j H5 => Same H2 H5 ∧ ∃ bs : List Bool, bs.length = j ∧ H5 D = some (.lst (bs.map fun b => V.str (wd [b])))) ⟨same_upd nD, [], rfl, by rw [upd_same]; rfl⟩ (fun j H5 _ hW => hW.1.seq (.inl (.inl A2))) (fun j x H5 hx hW => ?_) (fun H5 hW => ?_)
      · obtain ⟨s5, bs, hb, hD⟩ := hW
        obtain ⟨c, ec, rfl⟩ := map_get hx
        have hj : j < ms.length := (List.getElem?_eq_some_iff.mp ec).1
        obtain ⟨b, hat⟩ := two_at (.inl ud_two) (i := c % 2) (by omega) (by omega)
        refine ⟨rfl, _, rfl, _, _, rfl, rfl, (show (0 : Int) < 2 by decide), _, _, _, rfl, rfl, (show (2 : Nat) ≤ sizeLine by decide), hat, _, hD, ?_, ?_, bs ++ [b], ?_, ?_⟩
        · rw [List.length_map]
          exact Nat.lt_of_lt_of_le (show bs.length < 2000 by omega) hsm
        · intro b2 x2 e2
          rw [upd_ne (ne_of_none e2 nD)]
          exact s5 b2 x2 e2
        · rw [List.length_append, hb]; rfl
        · rw [upd_same, List.map_append]
          rfl
      · obtain ⟨s5, bs, hb, hD⟩ := hW
        rw [List.length_map] at hb
        refine ⟨_, D, bs.map (fun b => wd [b]), rfl, rfl, .inl (.inl (.inl (by rw [hD, List.map_map]; rfl))), ?_, ?_⟩
        · rw [letters_sum, List.length_map]
          show bs.length + bs.length * 0 ≤ 16777216
          omega
        · rw [join_wd]
          exact ⟨bs, _, _, _, rfl, by omega, S2.trans s5, s5 _ _ A2⟩
    refine ⟨M, ?_, fun σ H3 hM => ?_⟩
    · obtain ⟨l, v3, v4, v5, rfl, hl, S3, A3⟩ := hM
      refine ⟨_, rfl, rfl, _, rfl, ite2 (fun _ => ?_) (fun _ => ⟨l, _, _, _, rfl, hl, S3, A3⟩)⟩
      refine ⟨⟨_, rfl⟩, _, rfl, a1, _, rfl, .inl (.inl A3), fun D nD => ?_⟩
      refine lc_it (walk_enum (xs := ms.map V.int)) (fun j H5 => Same H3 H5 ∧ ∃ bs : List Bool, bs.length = j ∧ H5 D = some (.lst (bs.map fun b => V.str (wd [b])))) ⟨same_upd nD, [], rfl, by rw [upd_same]; rfl⟩ (fun j H5 _ hW => hW.1.seq (.inl (.inl A3))) (fun j x H5 H6 hj hW y => ?_) (fun H5 hW => ?_)
      · obtain ⟨s5, bs, hb, hD⟩ := hW
        obtain ⟨T, x0, x1, rfl, nT, rfl, e0, e1⟩ := y
        cases e0
        obtain ⟨c, ec, rfl⟩ := map_get e1
        rw [List.length_map] at hj
        have s6 := same_upd (o := .tup [.int (j : Nat), .int c]) nT
        have D6 := s6 _ _ hD
        refine ⟨T, _, rfl, .inl (.inl upd_same), rfl, _, _, rfl, _, _, rfl, rfl, ?_⟩
        have fin : ∀ (z : Str), (∃ b, z = wd [b]) → ∃ acc, upd H5 T (.tup [.int (j : Nat), .int c]) D = some (.lst acc) ∧ acc.length < sizeLine ∧ (Same H3 (upd (upd H5 T (.tup [.int (j : Nat), .int c])) D (.lst (acc ++ [.str z]))) ∧
            ∃ bs : List Bool, bs.length = j + 1 ∧ upd (upd H5 T (.tup [.int (j : Nat), .int c])) D (.lst (acc ++ [.str z])) D = some (.lst (bs.map fun b => V.str (wd [b])))) := by
          rintro z ⟨b, rfl⟩
          refine ⟨_, D6, ?_, ?_, bs ++ [b], ?_, ?_⟩
          · rw [List.length_map]
            exact Nat.lt_of_lt_of_le (show bs.length < 2000 by omega) hsm
          · intro b2 x2 e2
            rw [upd_ne (ne_of_none e2 nD)]
            exact s6 _ _ (s5 b2 x2 e2)
          · rw [List.length_append, hb]; rfl
          · rw [upd_same, List.map_append]
            rfl
        obtain ⟨b, hat⟩ := two_at (.inl ud_two) (i := (j : Int) % 2) (by omega) (by omega)
        obtain ⟨b', hat'⟩ := two_at (.inr du_two) (i := (j : Int) % 2) (by omega) (by omega)
        refine ⟨rfl, _, rfl, _, _, rfl, rfl, (show (0 : Int) < 7 by decide), _, _, rfl, rfl, _, rfl, ite2 (fun _ => ?_) (fun _ => ?_)⟩
        · exact ⟨_, rfl, _, _, rfl, rfl, (show (0 : Int) < 2 by decide), _, _, _, rfl, rfl, (show (2 : Nat) ≤ sizeLine by decide), hat, fin _ ⟨b, rfl⟩⟩
        · exact ⟨_, rfl, _, _, rfl, rfl, (show (0 : Int) < 2 by decide), _, _, _, rfl, rfl, (show (2 : Nat) ≤ sizeLine by decide), hat', fin _ ⟨b', rfl⟩⟩
      · obtain ⟨s5, bs, hb, hD⟩ := hW
        rw [List.length_map] at hb
        refine ⟨_, D, bs.map (fun b => wd [b]), rfl, rfl, .inl (.inl (.inl (by rw [hD, List.map_map]; rfl))), ?_, ?_⟩
        · rw [letters_sum, List.length_map]
          show bs.length + bs.length * 0 ≤ 16777216
          omega
        · rw [join_wd]
          exact ⟨bs, _, _, _, rfl, by omega, S3.trans s5, s5 _ _ A3⟩
    refine ⟨M, ?_, fun σ H3 hM => ?_⟩
    · obtain ⟨l, v3, v4, v5, rfl, hl, S3, A3⟩ := hM
      refine ⟨_, rfl, rfl, _, rfl, ite2 (fun _ => ?_) (fun _ => ⟨l, _, _, _, rfl, hl, S3, A3⟩)⟩
      refine ⟨⟨_, rfl⟩, _, rfl, a1, rfl, ⟨_, .inl (.inl A3)⟩, fun D nD => ?_⟩
      refine lc_list (xs := ms.map V.int) (fun j H5 => Same H3 H5 ∧ ∃ ws : List (List Bool), ws.length = j ∧ (∀ x ∈ ws, x.length ≤ 3) ∧ H5 D = some (.lst (ws.map fun x => V.str (wd x)))) ⟨same_upd nD, [], rfl, fun x h => absurd h (by simp), by rw [upd_same]; rfl⟩ (fun j H5 _ hW => hW.1.seq (.inl (.inl A3))) (fun j x H5 hx hW => ?_) (fun H5 hW => ?_)
      · obtain ⟨s5, ws, hb, hw3, hD⟩ := hW
        obtain ⟨c, ec, rfl⟩ := map_get hx
        have hj : j < ms.length := (List.getElem?_eq_some_iff.mp ec).1
        obtain ⟨b, hat⟩ := two_at (.inl ud_two) (i := c / 2 % 2) (by omega) (by omega)
        refine ⟨rfl, _, rfl, _, _, rfl, rfl, (show CDiv c 2 from ⟨by decide, by decide⟩), _, _, rfl, rfl, (show (0 : Int) < 2 by decide), _, _, _, rfl, rfl, (show (2 : Nat) ≤ sizeLine by decide), hat, ?_⟩
        have hn : 0 ≤ 1 + c / 4 % 3 ∧ 1 + c / 4 % 3 ≤ 3 := by omega
        refine ⟨_, rfl, _, _, rfl, rfl, (show CDiv c 4 from ⟨by decide, by decide⟩), _, _, rfl, rfl, (show (0 : Int) < 3 by decide), _, _, rfl, rfl, [sg b], 1 + c / 4 % 3, rfl, rfl, hn.1, by omega, ?_, ?_⟩
        · show 1 * (1 + c / 4 % 3).toNat ≤ 1000000
          omega
        rw [rep_wd]
        refine ⟨_, hD, ?_, ?_, ws ++ [List.replicate (1 + c / 4 % 3).toNat b], ?_, ?_, ?_⟩
        · rw [List.length_map]
          exact Nat.lt_of_lt_of_le (show ws.length < 2000 by omega) hsm
        · intro b2 x2 e2
          rw [upd_ne (ne_of_none e2 nD)]
          exact s5 b2 x2 e2
        · rw [List.length_append, hb]; rfl
        · intro x hx
          rcases List.mem_append.mp hx with h | h
          · exact hw3 x h
          · rw [List.mem_singleton.mp h, List.length_replicate]; omega
        · rw [upd_same, List.map_append]
          rfl
      · obtain ⟨s5, ws, hb, hw3, hD⟩ := hW
        rw [List.length_map] at hb
        have hfl := flat_le ws 3 hw3
        refine ⟨_, D, ws.map wd, rfl, rfl, .inl (.inl (.inl (by rw [hD, List.map_map]; rfl))), ?_, ?_⟩
        · have h1 := words_sum ws 3 hw3
          rw [List.length_map]
          show _ + ws.length * 0 ≤ 16777216
          omega
        · rw [join_wds]
          refine ⟨64, rfl, _, rfl, ?_, ?_⟩
          · rw [wd_len]
            exact Nat.le_trans (show ws.flatten.length ≤ 2000 by omega) hsm
          · rw [show (64 : Int) = ((64 : Nat) : Int) from rfl, cut_word]
            exact ⟨_, _, _, _, rfl, by rw [List.length_take]; exact Nat.min_le_left _ _, S3.trans s5, s5 _ _ A3⟩
    refine ⟨M, ?_, fun σ H3 hM => ?_⟩
    · obtain ⟨l, v3, v4, v5, rfl, hl, S3, A3⟩ := hM
      refine ⟨_, rfl, rfl, _, rfl, ite2 (fun _ => ?_) (fun _ => iteF ⟨l, _, _, _, rfl, hl, S3, A3⟩)⟩
      refine ⟨_, rfl, (show 0 ≤ sizeLine by decide), fun e0 ne0 => ?_⟩
      have s4 := same_upd (o := .lst []) ne0
      have A4 := s4 _ _ A3
      refine ⟨_, _, dp_list (ns := ms) (.inl (.inl A4)), dp_list (a := e0) (ns := []) (.inl (.inl (by rw [upd_same]; rfl))), PySem.W.shaped_ints _, PySem.W.shaped_ints _, _, rfl, ite2 (fun hne => ?_) (fun _ => ⟨l, _, _, _, rfl, hl, S3.trans s4, A4⟩)⟩
      have hms0 : ms ≠ [] := fun z => by
        rw [z, ints_refl] at hne
        cases hne
      obtain ⟨v, hv⟩ := at_end hms0
      refine ⟨_, rfl, _, rfl, a1, _, _, _, rfl, rfl, .inl (.inl A4), hv, _, _, rfl, rfl, (show CDiv v 3 from ⟨by decide, by decide⟩), ?_⟩
      refine ⟨fun σ H' => ∃ l v3 v4 v5, σ = [some (.ref a1), some (.int kd), some (.str (wd l)), v3, v4, v5] ∧ l.length ≤ 200 ∧ Same H H' ∧ H' a1 = some (.lst (ms.map V.int)), ?_, fun σ H5 hW => ?_⟩
      · refine ⟨_, rfl, _, rfl, a1, _, _, _, rfl, rfl, .inl (.inl A4), hv, v, 8, 60, rfl, by decide, by decide, fun r H5 hr0 hr1 s5 => ?_⟩
        refine ⟨r, rfl, by omega, by omega, for_range (n := r.toNat) (fun j σ H' => ∃ l x v4 v5, σ = [some (.ref a1), some (.int kd), some (.str (wd l)), some (.int x), v4, v5] ∧ l.length ≤ 64 + j ∧ Same H H' ∧ H' a1 = some (.lst (ms.map V.int)))
          ⟨l, _, _, _, rfl, by omega, (S3.trans s4).trans s5, s5 _ _ A4⟩ (fun j σ H6 hj hW => ?_) (fun σ H6 hW => ?_)⟩
        · obtain ⟨l, x, v4, v5, rfl, hl6, S6, A6⟩ := hW
          obtain ⟨b, hat⟩ := two_at (.inl ud_two) (i := x % 2) (by omega) (by omega)
          refine ⟨_, rfl, _, rfl, _, _, rfl, rfl, (show (0 : Int) < 2 by decide), _, _, _, rfl, rfl, (show (2 : Nat) ≤ sizeLine by decide), hat, wd l, wd [b], rfl, rfl, ?_, ?_⟩
          · rw [wd_len, wd_len]
            exact Nat.le_trans (show l.length + 1 ≤ 2000 by omega) hsm
          · refine ⟨_, rfl, _, _, rfl, rfl, (show CDiv x 2 from ⟨by decide, by decide⟩), l ++ [b], x / 2, some (.int (0 + (j : Nat))), v5, ?_, ?_, S6, A6⟩
            · rw [← wd_app]
              rfl
            · rw [List.length_append]
              show l.length + 1 ≤ 64 + (j + 1)
              omega
        · obtain ⟨l, x, v4, v5, rfl, hl6, S6, A6⟩ := hW
          exact ⟨l, _, _, _, rfl, by omega, S6, A6⟩
      · obtain ⟨l, v3, v4, v5, rfl, hl5, S5, A5⟩ := hW
        refine ⟨_, rfl, 64, rfl, _, rfl, ?_, ?_⟩
        · rw [wd_len]
          exact Nat.le_trans (show l.length ≤ 2000 by omega) hsm
        · rw [show (64 : Int) = ((64 : Nat) : Int) from rfl, cut_word]
          exact ⟨_, _, _, _, rfl, by rw [List.length_take]; exact Nat.min_le_left _ _, S5, A5⟩
    obtain ⟨l, v3, v4, v5, rfl, hl, S3, _⟩ := hM
    exact ⟨_, rfl, q l H3 hl S3⟩
end
end K5
end
-- part MathZ
section
set_option autoImplicit false
set_option linter.all false
/-! Zigzags and cuttings: no zigzag is longer than the cutting and two. -/
namespace ZG
def at' (row : List Int) (i : Nat) : Int := row.getD i 0
/-- a strict step of this sign within a way that ends higher (lower) than it began -/
theorem has_up (row : List Int) : ∀ (n p : Nat), at' row p < at' row (p + n) → ∃ i, p ≤ i ∧ i < p + n ∧ at' row i < at' row (i + 1)
  | 0, p, h => absurd h (Int.lt_irrefl _)
  | n + 1, p, h => by
    by_cases h1 : at' row (p + n) < at' row (p + n + 1)
    · exact ⟨p + n, by omega, by omega, h1⟩
    · have h2 : at' row p < at' row (p + n) := by
        have e : p + (n + 1) = p + n + 1 := by omega
        rw [e] at h
        omega
      obtain ⟨i, a, b, c⟩ := has_up row n p h2
      exact ⟨i, a, by omega, c⟩
theorem has_down (row : List Int) : ∀ (n p : Nat), at' row (p + n) < at' row p → ∃ i, p ≤ i ∧ i < p + n ∧ at' row (i + 1) < at' row i
  | 0, p, h => absurd h (Int.lt_irrefl _)
  | n + 1, p, h => by
    by_cases h1 : at' row (p + n + 1) < at' row (p + n)
    · exact ⟨p + n, by omega, by omega, h1⟩
    · have h2 : at' row (p + n) < at' row p := by
        have e : p + (n + 1) = p + n + 1 := by omega
        rw [e] at h
        omega
      obtain ⟨i, a, b, c⟩ := has_down row n p h2
      exact ⟨i, a, by omega, c⟩
/-- a step of this sign at i -/
def stp (up : Bool) (row : List Int) (i : Nat) : Prop := if up then at' row i < at' row (i + 1) else at' row (i + 1) < at' row i
/-- where no cut stands between, steps have one sign -/
def Cutting (row : List Int) (cs : List Nat) : Prop := ∀ i j, i < j → j + 1 < row.length → (∀ c ∈ cs, ¬ (i < c ∧ c ≤ j)) → ∀ b, stp b row i → stp (!b) row j → False
/-- rising places, their numbers greater and less by turns, this way first -/
def Zig (row : List Int) : Bool → List Nat → Prop
  | b, p :: q :: r => p < q ∧ q < row.length ∧ (if b then at' row p < at' row q else at' row q < at' row p) ∧ Zig row (!b) (q :: r)
  | _, _ => True
def above (cs : List Nat) (i : Nat) : Nat := (cs.filter fun c => decide (i < c)).length
theorem above_le (cs : List Nat) (i : Nat) : above cs i ≤ cs.length := List.length_filter_le _ _
theorem above_pos {c : Nat} {cs : List Nat} {i : Nat} (h : i < c) : above (c :: cs) i = above cs i + 1 := by
  unfold above
  simp [List.filter_cons, h]
theorem above_neg {c : Nat} {cs : List Nat} {i : Nat} (h : ¬ i < c) : above (c :: cs) i = above cs i := by
  unfold above
  simp [List.filter_cons, h]
theorem above_mono : ∀ (cs : List Nat) {i j : Nat}, i ≤ j → above cs j ≤ above cs i
  | [], _, _, _ => Nat.le_refl _
  | c :: cs, i, j, h => by
    have ih := above_mono cs h
    by_cases h1 : j < c
    · rw [above_pos h1, above_pos (Nat.lt_of_le_of_lt h h1)]
      exact Nat.succ_le_succ ih
    · rw [above_neg h1]
      by_cases h2 : i < c
      · rw [above_pos h2]
        exact Nat.le_succ_of_le ih
      · rw [above_neg h2]
        exact ih
theorem above_lt : ∀ (cs : List Nat) {i j c : Nat}, c ∈ cs → i < c → c ≤ j → above cs j + 1 ≤ above cs i
  | [], _, _, _, h, _, _ => by cases h
  | d :: cs, i, j, c, h, h1, h2 => by
    rcases List.mem_cons.mp h with e | h
    · subst e
      have m := above_mono cs (Nat.le_trans (Nat.le_of_lt h1) h2)
      rw [above_neg (Nat.not_lt.mpr h2), above_pos h1]
      exact Nat.succ_le_succ m
    · have ih := above_lt cs h h1 h2
      by_cases h3 : j < d
      · rw [above_pos h3, above_pos (Nat.lt_trans (Nat.lt_of_lt_of_le h1 h2) h3)]
        omega
      · rw [above_neg h3]
        by_cases h4 : i < d
        · rw [above_pos h4]
          omega
        · rw [above_neg h4]
          exact ih
theorem zig_step {row : List Int} {b : Bool} {p q : Nat} (h : p < q) (hv : if b then at' row p < at' row q else at' row q < at' row p) : ∃ i, p ≤ i ∧ i < q ∧ stp b row i := by
  have e : q = p + (q - p) := by omega
  cases b with
  | true =>
    have hv' : at' row p < at' row q := hv
    rw [e] at hv'
    obtain ⟨i, a, c, d⟩ := has_up row (q - p) p hv'
    exact ⟨i, a, by omega, d⟩
  | false =>
    have hv' : at' row q < at' row p := hv
    rw [e] at hv'
    obtain ⟨i, a, c, d⟩ := has_down row (q - p) p hv'
    exact ⟨i, a, by omega, d⟩
theorem zig_above {row : List Int} {cs : List Nat} (hc : Cutting row cs) : ∀ (r : List Nat) (b : Bool) (p q : Nat), Zig row b (p :: q :: r) → ∃ i, p ≤ i ∧ i < q ∧ stp b row i ∧ (p :: q :: r).length ≤ above cs i + 2
  | [], b, p, q, h => by
    obtain ⟨i, h1, h2, h3⟩ := zig_step h.1 h.2.2.1
    exact ⟨i, h1, h2, h3, by show 2 ≤ _; omega⟩
  | r :: rs, b, p, q, h => by
    obtain ⟨i, h1, h2, h3⟩ := zig_step h.1 h.2.2.1
    obtain ⟨j, k1, k2, k3, k4⟩ := zig_above hc rs (!b) q r h.2.2.2
    refine ⟨i, h1, h2, h3, ?_⟩
    have hr : r < row.length := h.2.2.2.2.1
    have hij : i < j := by omega
    by_cases hcut : ∃ c ∈ cs, i < c ∧ c ≤ j
    · obtain ⟨c, m, c1, c2⟩ := hcut
      have := above_lt cs m c1 c2
      simp only [List.length_cons] at k4 ⊢
      omega
    · exact (hc i j hij (by omega) (fun c m z => hcut ⟨c, m, z⟩) b h3 k3).elim
/-- no zigzag has more places than the cutting and two -/
theorem zig_bound {row : List Int} {cs ps : List Nat} {b : Bool} (hc : Cutting row cs) (h : Zig row b ps) : ps.length ≤ cs.length + 2 := by
  match ps, h with
  | [], _ => exact Nat.zero_le _
  | [_], _ => show 1 ≤ _; omega
  | p :: q :: r, h =>
    obtain ⟨i, _, _, _, k⟩ := zig_above hc r b p q h
    have := above_le cs i
    omega
end ZG
end
-- part RSet
section
set_option Elab.async false
set_option linter.all false
set_option maxRecDepth 100000
set_option maxHeartbeats 3200000
/-! sorted(set(xs)) of a list of whole numbers, of any count. -/
namespace RFI
open PySem PySem.Spec PyProof.Rows L2
section
variable {P : Program} {w : World} {A : Around} {E : Value → Shared → Prop} {s : Shared}
abbrev freshSet (w : World) : Obj := { cls := .type "set", dict := none, data := .set #[] 0 (.fresh 0 0 (!w.params.followText "set-order")) }
theorem set_of_list {l : Addr} {items : Array Value} (ns : List Int) {Q : Value → Shared → Prop} (hh : A.handled = none) (hl : s.heap.IsList l items) (hit : IntsAre items.toList ns) (hb : ns.length + 1 < scanBound)
    (h : ∀ (h' : Heap) (tk c : Nat), SetR w h' s.heap.objs.size (fun j => decide (j ∈ ns)) c → c ≤ ns.length → (∀ b o, s.heap.get? b = some o → h'.get? b = some o) → Q (.ref s.heap.objs.size) { s with heap := h', toks := tk }) :
    wpAny (model P w) A (call (.type "set") [.ref l]) Q E s := by
  have hisz : items.size = ns.length := by
    have q := IntsAre.length hit
    rwa [Array.length_toList] at q
  obtain ⟨c, tl, hmro⟩ := F.called_set.mro
  have m1 := F.called_set.made
  have m2 := F.called_set.sub
  have m3 := F.called_set.notType
  have m4 := F.called_set.canCreate
  have m5 := F.typeCall_set_1 (.ref l)
  refine wpAny_call (codeAny_of_tree ?_)
  show wpAny _ _ (callAny (.type "set") _) _ _ _
  refine wpAny_pure ⟨Code.quiet_builtin _ (by decide +kernel), codeAny_builtin F.entry_type_call ?_⟩
  rw [Around.under_plain (weight_type_call_type "set" [.ref l] []) rfl]
  repeat (any_goals (first | assumption | wp_step))
  refine codeAny_mono (code_set_led1 (.ref l) (E := E) (Q₁ := fun obj s₁ => obj = .ref s.heap.objs.size ∧ s₁ = { s with heap := s.heap.push (freshSet w) }) ⟨rfl, rfl⟩) fun r s₁ hr => ?_
  cases r with
  | error e => exact hr
  | ok fl =>
    cases fl with
    | ret obj =>
      obtain ⟨rfl, rfl⟩ := hr
      have hS : (s.heap.push (freshSet w)).get? s.heap.objs.size = some (freshSet w) := Heap.get?_push_size _ rfl
      have hT : Shared.TypeIs { s with heap := s.heap.push (freshSet w) } (.ref s.heap.objs.size) "set" := ⟨_, hS, rfl⟩
      have i1 := F.called_set.init.lookup
      have i2 := F.called_set.init.bind (.ref s.heap.objs.size)
      repeat (any_goals (first | assumption | wp_step))
      refine codeAny_mono (codeAny_call_builtin (R := wants (fun r s₂ => r = .none ∧ ∃ h' tk c, s₂ = { s with heap := h', toks := tk } ∧ SetR w h' s.heap.objs.size (fun j => decide (j ∈ ns)) c ∧ c ≤ ns.length ∧
          (∀ b o, s.heap.get? b = some o → h'.get? b = some o)) E) F.called_set.init.plain F.entry_set_init (check_set_init_1 hT ?_)) fun r₂ s₂ hr₂ => ?_
      · obtain ⟨⟨ocls, odict, odata, oslots⟩, hol, hcl, nl, hdl⟩ := hl
        simp only at hcl hdl
        subst hcl; subst hdl
        have hlS : l < s.heap.objs.size := Heap.lt_size hol
        have k1 := F.sub_list_set
        have k2 := F.sub_list_frozenset
        have k3 : (Value.type "list" == Value.type "dict") = false := by decide
        have hol' : (s.heap.push (freshSet w)).get? l = some { cls := .type "list", dict := odict, data := .seq items nl, slots := oslots } := Heap.get?_push_of_some _ hol
        have hl1 : (s.heap.push (freshSet w)).IsList l items := ⟨_, hol', rfl, nl, rfl⟩
        unfold Builtin.«set.__init__» noKeywords Builtin.Frozenset.updateFrom
        generalize hPI : pyIter = PI
        wp_walk
        subst hPI
        refine wpAny_pyIter_list hl1 ?_
        refine wpAny_bind (wpAny_runValue ?_)
        have hh3 : A.in1.in1.in1.handled = none := by simp [hh]
        have hneI : l ≠ (s.heap.push (freshSet w)).objs.size := by
          rw [Heap.size_push]
          exact Nat.ne_of_lt (Nat.lt_succ_of_lt hlS)
        have hSf : s.heap.objs.size ∉ [(s.heap.push (freshSet w)).objs.size, l] := by
          rw [Heap.size_push]
          intro z
          rcases List.mem_cons.mp z with z | z
          · exact Nat.ne_of_lt (Nat.lt_succ_self _) z
          · exact Nat.ne_of_gt hlS (List.mem_singleton.mp z)
        have hval : ∀ (i : Nat) (v : Value), items[i]? = some v → ∃ k t, ns[i]? = some k ∧ v = .int k t := fun i v hv => by
          have hi : i < ns.length := by rw [← hisz]; exact (Array.getElem?_eq_some_iff.mp hv).1
          obtain ⟨t, e⟩ := IntsAre.int_at hit i v (by rw [Array.getElem?_toList]; exact hv)
          refine ⟨ns[i], t, List.getElem?_eq_getElem hi, ?_⟩
          rw [e, List.getD_eq_getElem?_getD, List.getElem?_eq_getElem hi] <;> rfl
        refine set_update_ints ((Walks.list hh3 _ l hneI items).toS) s.heap.objs.size hSf ns hisz hb hval (items.size - 0) 0 _ (by omega) (Nat.zero_le _)
          ⟨⟨_, Heap.get?_push_size _ rfl, rfl, rfl⟩, (hl1.push _)⟩ ⟨0, Nat.le_refl 0, setR_new_at (Heap.get?_push_of_some _ hS)⟩ fun s' c' hm hc' hS' => ?_
        obtain ⟨h', g2, d', tk', os'⟩ := s'
        obtain rfl : g2 = s.gens := hm.gens
        obtain rfl : d' = s.drawn := hm.drawn
        obtain rfl : os' = s.os := hm.os
        refine wpAny_pure ?_
        show wpAny _ _ (ret Value.none) _ _ _
        refine wpAny_pure ⟨rfl, h', tk', c', rfl, hS', by rw [← hisz]; exact hc', fun b o e => ?_⟩
        have hb0 : b < s.heap.objs.size := Heap.lt_size e
        refine hm.heap b o (fun z => ?_) (Heap.get?_push_of_some _ (Heap.get?_push_of_some _ e))
        rw [Heap.size_push] at z
        rcases List.mem_cons.mp z with z | z
        · exact Nat.ne_of_lt hb0 z
        · exact Nat.ne_of_lt (Nat.lt_succ_of_lt hb0) (List.mem_singleton.mp z)
      · cases r₂ with
        | error e => exact hr₂
        | ok fl₂ =>
          cases fl₂ with
          | ret r =>
            obtain ⟨rfl, h', tk, c', rfl, hS', hc', hk'⟩ := hr₂
            repeat (any_goals (first | assumption | wp_step))
            exact h _ _ _ hS' hc' hk'
          | _ => exact hr₂.elim
    | _ => exact hr.elim
/-- sorted(set), of any count -/
theorem sorted_setN {S : Int → Bool} {n : Nat} {a : Addr} {Q : Value → Shared → Prop} (R : SetR w s.heap a S n) (hh : A.handled = none)
    (hQ : ∀ s' p (out : Array Value) (c : Nat) (ns : List Int), (∀ b o, s.heap.get? b = some o → s'.heap.get? b = some o) → s'.gens = s.gens → s'.os = s.os → s.heap.objs.size ≤ p →
      s'.heap.get? p = some (seqObj "list" out c) → IntsAre out.toList ns → ns.Pairwise (· < ·) → (∀ k, k ∈ ns ↔ S k = true) → ns.length ≤ sizeLine → Q (.ref p) s') :
    wpAny (model P w) A (call (.builtin "sorted") [.ref a]) Q E s := by
  obtain ⟨o, es, ep, t, ho, hex, hd, g, nd, hm, hb, hf, hn, hr, hl⟩ := R
  refine Calls.call_function_entry kind_sorted plain_sorted entry_sorted (args_sorted1 _) ?_
  unfold Builtin.«sorted»
  refine wpAny_bind (m := checkCount "sorted" 1 1 _) (wpAny_pure ?_)
  refine wpAny_bind (collect_set (A := A.in1) hh ⟨o, ho, hex.1, hd⟩ hf hb hr hl fun s1 vs k1 hz g1 o1 pm => ?_)
  have hvl : vs.length = es.size := by rw [pm.length_eq, List.length_map, Array.length_toList]
  have hvz : vs.length ≤ sizeLine := by
    rw [hvl]
    have e1 : scanBound ≤ sizeLine := by decide
    exact Nat.le_trans (Nat.le_of_lt hb) e1
  have hI : IntsAre vs (vs.map Builtin.Re.reRawOf) := ints_of vs fun v hv => by
    obtain ⟨e, he, q⟩ := List.mem_map.mp (pm.mem_iff.mp hv)
    obtain ⟨k, tk, h1, _⟩ := g e he
    exact ⟨k, tk, by rw [← q]; exact h1⟩
  have pk : (vs.map Builtin.Re.reRawOf).Perm (es.toList.map keyOf) := by
    have q := pm.map Builtin.Re.reRawOf
    rwa [List.map_map] at q
  refine wpAny_bind (wpAny_newList ?_ hvz)
  have hoL : (s1.heap.push (seqObj "list" vs.toArray 0)).get? s1.heap.objs.size = some (seqObj "list" vs.toArray 0) := Heap.get?_push_size _ rfl
  refine wpAny_bind (wpAny_holding (wpAny_call_entry slot_list_sort ⟨_, hoL, rfl⟩ entry_list_sort
    (SrtO.list_sort_ord SrtO.swo_int hoL hvz (fun h2 => SrtO.ints_sortable hI h2) fun out h1 h2 => ⟨_, rfl, ?_⟩) (args_list_sort _)))
  obtain ⟨j1, j2, j3⟩ := SrtO.ints_out hI h1 h2
  obtain ⟨c, hc⟩ := sortedHeap_at (vs := vs) (out := out.toArray) hoL
  have pn : (out.map SrtO.iv).Perm (es.toList.map keyOf) := j2.trans pk
  refine wpAny_pure ⟨_, rfl, hQ _ s1.heap.objs.size out.toArray c _ (fun b u e => ?_) g1 o1 hz hc (by simpa using j1) (lt_of_le_nodup _ j3 (pn.nodup_iff.mpr nd)) (fun k => by rw [pn.mem_iff, ← hm k]) ?_⟩
  · have q := k1 b u e
    have hlt := Heap.lt_size q
    show (sortedHeap (s1.heap.push (seqObj "list" vs.toArray 0)) s1.heap.objs.size vs out.toArray).get? b = some u
    rw [sortedHeap_old (Nat.ne_of_lt hlt) (by rw [size_push']; exact Nat.lt_succ_of_lt hlt)]
    exact Heap.get?_push_of_some _ q
  · rw [j2.length_eq, List.length_map]
    exact hvz
end
section
variable {X : Cx}
/-- the rising list of what is in a list, each once -/
def IsSet (ns ms : List Int) : Prop := ms.Pairwise (· < ·) ∧ ∀ k, k ∈ ms ↔ k ∈ ns
/-- set(xs) of a list of whole numbers -/
def rSetL (K : PySem.W.Frag) (w : World) : List V → Hp → VK → Prop := fun xs H Q => ∃ (a : Addr) (ns : List Int), xs = [.ref a] ∧ SqL K H a (ns.map V.int) ∧ ns.length ≤ 1000 ∧ ∀ p c, H p = none → Q (.ref p) (upd H p (SetO w p (fun j => decide (j ∈ ns)) c))
theorem cr_setL (hc : X.calm = true) : CallR X (.type "set") (rSetL X.K X.w) := by
  intro pins s σ H xs us Q I r h
  obtain ⟨a, ns, rfl, hq, hl, q⟩ := h
  obtain ⟨its, rv, hL, hz⟩ := I.list hq
  rw [Vals.ref1 r]
  have hi : IntsAre its ns := ints_of_vals rv
  refine set_of_list (items := its.toArray) ns (I.ok.hd hc) hL.isList (by simpa using hi) (by unfold scanBound; omega) fun h' tk c R hcn k => ?_
  have hn : H s.heap.objs.size = none := I.hok.fresh (Nat.le_refl _)
  exact ⟨.ref _, _, I.laid (t' := tk) k (Nat.le_refl _) (setO_new R), rfl, q _ c hn⟩
/-- sorted(found), of any count -/
def rSortSetN (w : World) : List V → Hp → VK → Prop := fun vs H Q => ∃ (a : Addr) (S : Int → Bool) (n : Nat), vs = [V.ref a] ∧ H a = some (SetO w a S n) ∧
  ∀ (ns : List Int) (p : Addr), ns.Pairwise (· < ·) → (∀ k : Int, k ∈ ns ↔ S k = true) → H p = none → Q (.ref p) (upd H p (.lst (ns.map V.int)))
theorem cr_sortSetN (hc : X.calm = true) : CallR X (.builtin "sorted") (rSortSetN X.w) := by
  intro pins s σ H vs us Q I r h
  obtain ⟨a, S, n, rfl, ha, q⟩ := h
  have R := setO_get I ha
  rw [Vals.ref1 r]
  refine sorted_setN R (I.ok.hd hc) fun s' p out c ms k g o hp hg hi hs hm hl => ?_
  have hlen : (ms.map V.int).length ≤ sizeLine := by rw [List.length_map]; exact hl
  have hn : H p = none := I.hok.fresh hp
  have J : Inv X pins σ (upd H p (.lst (ms.map V.int))) { s with heap := s'.heap, gens := s'.gens, drawn := s'.drawn, toks := s'.toks } :=
    I.call (ch := []) (Un.laid k hp hn) (I.hok.laid k hp ⟨hlen, out.toList, c, vals_of_ints hi, hg⟩) (by rw [g]; exact I.bare) (fun _ z => nomatch z)
  have e : s' = { s with heap := s'.heap, gens := s'.gens, drawn := s'.drawn, toks := s'.toks } := by
    cases s'
    cases s
    cases o
    rfl
  rw [e]
  exact ⟨.ref p, _, J, rfl, q ms p hs hm hn⟩
/-- a rising list is its own, and any other with the same numbers is the same -/
theorem isSet_unique : ∀ {xs ys : List Int}, xs.Pairwise (· < ·) → ys.Pairwise (· < ·) → (∀ k, k ∈ xs ↔ k ∈ ys) → xs = ys
  | [], [], _, _, _ => rfl
  | [], y :: ys, _, _, h => absurd ((h y).mpr List.mem_cons_self) (by simp)
  | x :: xs, [], _, _, h => absurd ((h x).mp List.mem_cons_self) (by simp)
  | x :: xs, y :: ys, hx, hy, h => by
    obtain ⟨hx1, hx2⟩ := List.pairwise_cons.mp hx
    obtain ⟨hy1, hy2⟩ := List.pairwise_cons.mp hy
    have e : x = y := by
      rcases List.mem_cons.mp ((h x).mp List.mem_cons_self) with e | e
      · exact e
      · rcases List.mem_cons.mp ((h y).mpr List.mem_cons_self) with e' | e'
        · exact e'.symm
        · have a := hy1 x e
          have b := hx1 y e'
          omega
    subst e
    have ih := isSet_unique (xs := xs) (ys := ys) hx2 hy2 fun k => by
      constructor
      · intro hk
        rcases List.mem_cons.mp ((h k).mp (List.mem_cons_of_mem _ hk)) with e | e
        · have := hx1 k hk
          omega
        · exact e
      · intro hk
        rcases List.mem_cons.mp ((h k).mpr (List.mem_cons_of_mem _ hk)) with e | e
        · have := hy1 k hk
          omega
        · exact e
    rw [ih]
end
end RFI
end
-- part ZDue
section
set_option Elab.async false
set_option linter.all false
set_option maxRecDepth 100000
set_option maxHeartbeats 2000000
/-! What a zigzag and a cutting are to be, as a function; lists of whole numbers that are compared. -/
namespace ZG
open PySem PySem.Spec PyProof.Rows L2 RFI K1
def plB (n : Nat) (ps : List Int) : Bool := decide (ps.Pairwise (· < ·)) && ps.all fun p => decide (0 ≤ p) && decide (p < n)
def adj (f : Int → Int → Int) : List Int → List Int
  | x :: y :: r => f x y :: adj f (y :: r)
  | _ => []
theorem adj_len (f : Int → Int → Int) : ∀ ns : List Int, (adj f ns).length = ns.length - 1
  | [] => rfl
  | [_] => rfl
  | x :: y :: r => by
    show (adj f (y :: r)).length + 1 = _
    rw [adj_len f (y :: r)]
    simp
theorem adj_get (f : Int → Int → Int) : ∀ (ns : List Int) (i : Nat) (x y : Int), ns[i]? = some x → ns[i + 1]? = some y → (adj f ns)[i]? = some (f x y)
  | [], _, _, _, h, _ => by simp at h
  | [_], 0, _, _, _, h => by simp at h
  | [_], i + 1, _, _, h, _ => by simp at h
  | a :: b :: r, 0, x, y, h, h2 => by
    have e1 : a = x := Option.some.inj h
    have e2 : b = y := Option.some.inj h2
    rw [← e1, ← e2]
    rfl
  | a :: b :: r, i + 1, x, y, h, h2 => adj_get f (b :: r) i x y h h2
abbrev difs : List Int → List Int := adj fun x y => y - x
abbrev prods : List Int → List Int := adj fun x y => x * y
theorem adj_mem (f : Int → Int → Int) {C : Int → Prop} : ∀ ns : List Int, (∀ x ∈ ns, ∀ y ∈ ns, C (f x y)) → ∀ z ∈ adj f ns, C z
  | [], _, z, h => by cases h
  | [_], _, z, h => by cases h
  | x :: y :: r, hc, z, h => by
    rcases List.mem_cons.mp h with e | h
    · rw [e]
      exact hc x List.mem_cons_self y (List.mem_cons_of_mem _ List.mem_cons_self)
    · exact adj_mem f (y :: r) (fun u hu v hv => hc u (List.mem_cons_of_mem _ hu) v (List.mem_cons_of_mem _ hv)) z h
/-- numbers of at most k bits -/
def Bd (k : Nat) (ns : List Int) : Prop := ∀ x ∈ ns, x.natAbs < 2 ^ k
theorem bd_difs {k : Nat} {ns : List Int} (h : Bd k ns) : Bd (k + 1) (difs ns) := adj_mem _ ns fun x hx y hy => by
  have h1 := h x hx
  have h2 := h y hy
  rw [Nat.pow_succ]
  omega
theorem bd_of_bits {m : Nat} {ns : List Int} (h : ∀ z ∈ ns, Builtin.Int.intBits z ≤ m) : Bd m ns := fun z hz => by
  have h1 := h z hz
  have h2 : z.natAbs < 2 ^ Builtin.Int.intBits z := by
    unfold Builtin.Int.intBits
    split
    · rename_i h0
      simp_all
    · exact Nat.lt_log2_self
  exact Nat.lt_of_lt_of_le h2 (Nat.pow_le_pow_right (by decide) h1)
theorem inV_int (ds : List Int) : inV (V.int 0) (ds.map V.int) = decide ((0 : Int) ∈ ds) := by
  unfold inV
  rw [List.any_map]
  induction ds with
  | nil => rfl
  | cons d ds ih =>
    rw [List.any_cons, ih]
    by_cases h : d = 0
    · subst h
      simp [eqV]
    · have : ¬ (0 : Int) = d := fun z => h z.symm
      simp [eqV, h, this]
def turnsB (ns : List Int) : Bool := !decide ((0 : Int) ∈ difs ns) && (prods (difs ns)).all fun z => decide (z < 0)
def valsAt (row ps : List Int) : List Int := ps.map fun p => row.getD p.toNat 0
def alikeB (row : List Int) : Bool := decide (∀ x ∈ row, ∀ y ∈ row, x = y)
def endsOf (row cs : List Int) : List Int := 0 :: (cs ++ [(row.length : Int) - 1])
def part (row : List Int) (a b : Int) : List Int := (row.drop a.toNat).take (b + 1 - a).toNat
def monoB (p : List Int) : Bool := decide (p.Pairwise (· ≤ ·)) || decide (p.Pairwise (· ≥ ·))
def stretchesB (row : List Int) : List Int → Bool
  | a :: b :: r => monoB (part row a b) && stretchesB row (b :: r)
  | _ => true
def dueB (row ps cs : List Int) : Bool := plB row.length ps && (plB row.length cs && (turnsB (valsAt row ps) &&
  if alikeB row then decide (ps.length = (row.take 1).length) && decide (cs = []) else stretchesB row (endsOf row cs) && decide (ps.length = cs.length + 2)))
/-! ### compared lists -/
theorem eqvAll_ints : ∀ xs ys : List Int, PyData.eqvAll (xs.map PyData.int) (ys.map PyData.int) = decide (xs = ys)
  | [], [] => by simp [PyData.eqvAll]
  | [], _ :: _ => by simp [PyData.eqvAll]
  | _ :: _, [] => by simp [PyData.eqvAll]
  | x :: xs, y :: ys => by
    rw [List.map_cons, List.map_cons, PyData.eqvAll, eqvAll_ints xs ys]
    have e : PyData.eqv (.int x) (.int y) = decide (x = y) := by
      rw [PyData.eqv]
      by_cases h : x = y
      · rw [h]; simp
      · simp [h]
    rw [e]
    by_cases h1 : x = y <;> by_cases h2 : xs = ys <;> simp [h1, h2]
theorem eqv_ints (xs ys : List Int) : PyData.eqv (.list (xs.map PyData.int)) (.list (ys.map PyData.int)) = decide (xs = ys) := by
  rw [PyData.eqv]
  exact eqvAll_ints xs ys
theorem set_self {ps ms : List Int} (h : IsSet ps ms) : (ps = ms) ↔ ps.Pairwise (· < ·) := by
  constructor
  · intro e
    rw [e]
    exact h.1
  · intro hp
    exact isSet_unique hp h.1 fun k => (h.2 k).symm
theorem perm_sorted {xs ys : List Int} (p : xs.Perm ys) (hx : xs.Pairwise (· ≤ ·)) (hy : ys.Pairwise (· ≤ ·)) : xs = ys := by
  induction xs generalizing ys with
  | nil => exact (List.Perm.nil_eq p)
  | cons x xs ih =>
    cases ys with
    | nil => exact (List.Perm.eq_nil p)
    | cons y ys =>
      obtain ⟨hx1, hx2⟩ := List.pairwise_cons.mp hx
      obtain ⟨hy1, hy2⟩ := List.pairwise_cons.mp hy
      have e : x = y := by
        have a : x ≤ y := by
          rcases List.mem_cons.mp (p.mem_iff.mpr (List.mem_cons_self (a := y) (l := ys))) with e | e
          · omega
          · exact hx1 y e
        have b : y ≤ x := by
          rcases List.mem_cons.mp (p.mem_iff.mp (List.mem_cons_self (a := x) (l := xs))) with e | e
          · omega
          · exact hy1 x e
        omega
      subst e
      rw [ih (List.Perm.cons_inv p) hx2 hy2]
theorem sort_self {xs ys : List Int} (p : ys.Perm xs) (h : ys.Pairwise (· ≤ ·)) : (xs = ys) ↔ xs.Pairwise (· ≤ ·) := by
  constructor
  · intro e; rw [e]; exact h
  · intro hx; exact perm_sorted p.symm hx h
theorem sort_back {xs ys : List Int} (p : ys.Perm xs) (h : ys.Pairwise (· ≤ ·)) : (xs = ys.reverse) ↔ xs.Pairwise (· ≥ ·) := by
  constructor
  · intro e
    rw [e]
    exact List.pairwise_reverse.mpr h
  · intro hx
    have h1 : xs.reverse.Pairwise (· ≤ ·) := List.pairwise_reverse.mpr hx
    have h2 : xs.reverse = ys := perm_sorted ((List.reverse_perm xs).trans p.symm) h1 h
    rw [← h2, List.reverse_reverse]
theorem monoB_of {xs ys : List Int} (p : ys.Perm xs) (h : ys.Pairwise (· ≤ ·)) : monoB xs = (decide (xs = ys) || decide (xs = ys.reverse)) := by
  unfold monoB
  congr 1
  · exact decide_eq_decide.mpr (sort_self p h).symm
  · exact decide_eq_decide.mpr (sort_back p h).symm
theorem cut_part (row : List Int) {a b : Int} (h0 : 0 ≤ a) (h1 : a ≤ b) (h2 : b < row.length) : cutV (row.map V.int) (some a) (some (b + 1)) = (part row a b).map V.int := by
  unfold cutV part
  have ea : a = ((a.toNat : Nat) : Int) := by omega
  have eb : b + 1 = (((b + 1).toNat : Nat) : Int) := by omega
  rw [List.length_map]
  have sa : HT.sIx row.length 0 (some a) = a.toNat := by
    rw [ea, HT.sIx_nat, Int.toNat_natCast, Nat.min_eq_left (by omega)]
  have sb : HT.sIx row.length row.length (some (b + 1)) = (b + 1).toNat := by
    rw [eb, HT.sIx_nat, Int.toNat_natCast, Nat.min_eq_left (by omega)]
  rw [sa, sb, List.map_take, List.map_drop]
  congr 1
  omega
theorem plB_mem {n : Nat} {ps : List Int} (h : plB n ps = true) : ps.Pairwise (· < ·) ∧ ∀ p ∈ ps, 0 ≤ p ∧ p < (n : Int) := by
  unfold plB at h
  rw [Bool.and_eq_true, decide_eq_true_eq, List.all_eq_true] at h
  refine ⟨h.1, fun p hp => ?_⟩
  have q := h.2 p hp
  rw [Bool.and_eq_true, decide_eq_true_eq, decide_eq_true_eq] at q
  exact q
theorem ends_ok {row cs : List Int} (h : plB row.length cs = true) (hn : 1 ≤ row.length) : ∀ (k : Nat) (a b : Int), (endsOf row cs)[k]? = some a → (endsOf row cs)[k + 1]? = some b → 0 ≤ a ∧ a ≤ b ∧ b < (row.length : Int) := by
  obtain ⟨h1, h2⟩ := plB_mem h
  have hp : (endsOf row cs).Pairwise (· ≤ ·) := by
    unfold endsOf
    refine List.pairwise_cons.mpr ⟨fun x hx => ?_, List.pairwise_append.mpr ⟨h1.imp fun h => Int.le_of_lt h, List.pairwise_singleton _ _, fun x hx y hy => ?_⟩⟩
    · rcases List.mem_append.mp hx with hx | hx
      · exact (h2 x hx).1
      · rw [List.mem_singleton.mp hx]; omega
    · rw [List.mem_singleton.mp hy]
      have := (h2 x hx).2
      omega
  have hm : ∀ x ∈ endsOf row cs, 0 ≤ x ∧ x < (row.length : Int) := by
    intro x hx
    unfold endsOf at hx
    rcases List.mem_cons.mp hx with hx | hx
    · rw [hx]; omega
    · rcases List.mem_append.mp hx with hx | hx
      · exact h2 x hx
      · rw [List.mem_singleton.mp hx]; omega
  intro k a b ha hb
  obtain ⟨la, ea⟩ := List.getElem?_eq_some_iff.mp ha
  obtain ⟨lb, eb⟩ := List.getElem?_eq_some_iff.mp hb
  have hab := List.pairwise_iff_getElem.mp hp k (k + 1) la lb (Nat.lt_succ_self k)
  rw [ea, eb] at hab
  exact ⟨(hm a (List.mem_of_getElem? ha)).1, hab, (hm b (List.mem_of_getElem? hb)).2⟩
theorem drop_two {es : List Int} {k : Nat} {a b : Int} (ha : es[k]? = some a) (hb : es[k + 1]? = some b) : es.drop k = a :: b :: es.drop (k + 2) := by
  obtain ⟨la, ea⟩ := List.getElem?_eq_some_iff.mp ha
  obtain ⟨lb, eb⟩ := List.getElem?_eq_some_iff.mp hb
  rw [List.drop_eq_getElem_cons la, ea, List.drop_eq_getElem_cons lb, eb]
theorem stretches_step {row es : List Int} {k : Nat} {a b : Int} (ha : es[k]? = some a) (hb : es[k + 1]? = some b) : stretchesB row (es.drop k) = (monoB (part row a b) && stretchesB row (es.drop (k + 1))) := by
  obtain ⟨lb, eb⟩ := List.getElem?_eq_some_iff.mp hb
  rw [drop_two ha hb, List.drop_eq_getElem_cons lb, eb]
  rfl
theorem alike_min {row : List Int} {m M : Int} (hm : m ∈ row) (hl : ∀ y ∈ row, m ≤ y) (hM : M ∈ row) (hg : ∀ y ∈ row, y ≤ M) : alikeB row = decide (m = M) := by
  unfold alikeB
  refine decide_eq_decide.mpr ⟨fun h => h m hm M hM, fun e x hx y hy => ?_⟩
  have a1 := hl x hx
  have a2 := hg x hx
  have a3 := hl y hy
  have a4 := hg y hy
  omega
/-- an expression by some word about its value -/
def tWord (te : TE) : TE := fun σ H Q => ∃ Q' : VK, te σ H Q' ∧ ∀ x H1, Q' x H1 → Q x H1
theorem pe_word {X : Cx} {e : Expr} {te : TE} (he : PE X e te) : PE X e (tWord te) := ⟨fun pins s σ H Q I ⟨Q', h1, h2⟩ => thn (he.run pins s σ H Q' I h1) fun u s1 ⟨x, H1, I1, r1, q⟩ => ⟨x, H1, I1, r1, h2 x H1 q⟩⟩
/-- a test by some word about its truth -/
def tWordT (tc : TT) : TT := fun σ H Q => ∃ Q' : Bool → Hp → Prop, tc σ H Q' ∧ ∀ b H1, Q' b H1 → Q b H1
theorem pt_word {X : Cx} {e : Expr} {tc : TT} (hc : PT X e tc) : PT X e (tWordT tc) := ⟨fun pins s σ H Q I ⟨Q', h1, h2⟩ => thn (hc.run pins s σ H Q' I h1) fun b s1 ⟨H1, I1, q⟩ => ⟨H1, I1, h2 b H1 q⟩⟩
/-- sorted(set(e)), told by what holds behind it -/
def tSortSet (K : PySem.W.Frag) (te : TE) : TE := fun σ H Q => te σ H fun x H1 => ∃ (a : Addr) (ns : List Int), x = .ref a ∧ SqL K H1 a (ns.map V.int) ∧ ns.length ≤ 1000 ∧ ∀ ms p H', IsSet ns ms → Same H1 H' → H' p = some (.lst (ms.map V.int)) → Q (.ref p) H'
theorem pe_sortSet {X : Cx} {e : Expr} {te : TE} {p1 p2 q1 q2 : Pos} (hc : X.calm = true) (g1 : Gl X "sorted") (m1 : X.mg "sorted" = none) (g2 : Gl X "set") (m2 : X.mg "set" = none) (he : PE X e te)
    (s1 : starEach [.Call (.Name "set" p2) [e] [] q2] X.env = (false, eval (.Call (.Name "set" p2) [e] [] q2) X.env) :: starEach [] X.env := by rfl) (s2 : starEach [e] X.env = (false, eval e X.env) :: starEach [] X.env := by rfl)
    (t1 : (backTo q1 (starEach [] X.env)).any (·.1) = false := by rfl) (t2 : (backTo q2 (starEach [] X.env)).any (·.1) = false := by rfl) :
    PE X (.Call (.Name "sorted" p1) [.Call (.Name "set" p2) [e] [] q2] [] q1) (tSortSet X.K te) := by
  have inner : PE X (.Call (.Name "set" p2) [e] [] q2) (tCB (rSetL X.K X.w) (tCons (tWord te) tNil)) := pe_callTy (cr_setL hc) g2 m2 (by decide +kernel) (pa_cons (pe_word he) pa_nil s2) (by decide) (by decide) s2 t2
  have outer := pe_callB (p := p1) (pos := q1) (cr_sortSetN hc) g1 m1 (by decide +kernel) (pa_cons inner pa_nil s1) (by decide) (by decide) s1 t1
  refine ⟨fun pins s σ H Q I h => outer.run pins s σ H Q I ⟨_, h, fun x H1 h => ?_⟩⟩
  obtain ⟨a, ns, rfl, hS, hl, q⟩ := h
  refine ⟨a, ns, rfl, hS, hl, fun p c np => ⟨p, _, c, rfl, upd_same, fun ms p2 h1 h2 np2 => ?_⟩⟩
  exact q ms p2 _ ⟨h1, fun k => by rw [h2 k, decide_eq_true_eq]⟩ ((same_upd np).trans (same_upd np2)) upd_same
/-- len of a list or tuple, its relation named -/
def rLenQ (K : PySem.W.Frag) : List V → Hp → VK → Prop := fun xs H Q => ∃ p ys, xs = [V.ref p] ∧ (SqL K H p ys ∨ SqT K H p ys) ∧ Q (.int (ys.length : Nat)) H
end ZG
end
-- part KOrd
section
set_option Elab.async false
set_option linter.all false
set_option maxRecDepth 100000
set_option maxHeartbeats 4000000
namespace K2
open PySem PySem.Spec PyProof.Rows L2 RFI K1 ZG
def upto (n : Nat) : List Int := (List.range n).map Int.ofNat
/-- an order: the numbers from 0 on, each once, with the word -/
def IsOrder (l : List Bool) (fs : List Int) : Prop := fs.Perm (upto (l.length + 1)) ∧ byOf fs = l
theorem upto_rise (n : Nat) : (upto n).Pairwise (· ≤ ·) := by
  unfold upto
  exact List.pairwise_map.mpr (List.pairwise_lt_range.imp fun h => Int.ofNat_le.mpr (Nat.le_of_lt h))
theorem rgV_upto (n : Nat) : rgV 0 (n : Int) = (upto n).map V.int := by
  unfold rgV upto
  rw [Int.sub_zero, Int.toNat_natCast, List.map_map]
  refine List.map_congr_left fun i _ => ?_
  show V.int (0 + (i : Int)) = V.int (Int.ofNat i)
  rw [Int.zero_add]
  rfl
end K2
end
-- part ZRun
section
set_option Elab.async false
set_option linter.all false
set_option maxRecDepth 100000
set_option maxHeartbeats 2000000
/-! Runs of letters; an order drawn number by number, each with room for the run behind. -/
namespace K2
open PySem PySem.Spec PyProof.Rows L2 RFI K1 ZG
def runOf : List Bool → Nat
  | [] => 0
  | [_] => 1
  | a :: b :: r => if a = b then runOf (b :: r) + 1 else 1
theorem run_pos (a : Bool) (r : List Bool) : 1 ≤ runOf (a :: r) := by
  cases r with
  | nil => exact Nat.le_refl 1
  | cons b r =>
    show 1 ≤ if a = b then runOf (b :: r) + 1 else 1
    split <;> omega
theorem run_le : ∀ d : List Bool, runOf d ≤ d.length
  | [] => Nat.le_refl 0
  | [_] => Nat.le_refl 1
  | a :: b :: r => by
    have ih := run_le (b :: r)
    show (if a = b then runOf (b :: r) + 1 else 1) ≤ _
    simp only [List.length_cons] at ih ⊢
    split <;> omega
theorem run_same : ∀ (d : List Bool) (j : Nat), j < runOf d → d[j]? = d[0]?
  | [], j, h => absurd h (Nat.not_lt_zero _)
  | [a], j, h => by
    have : j = 0 := by
      have h' : j < 1 := h
      omega
    rw [this]
  | a :: b :: r, 0, _ => rfl
  | a :: b :: r, j + 1, h => by
    have h' : j + 1 < if a = b then runOf (b :: r) + 1 else 1 := h
    split at h'
    · rename_i e
      have ih := run_same (b :: r) j (by omega)
      show (b :: r)[j]? = some a
      rw [ih, e]
      rfl
    · omega
theorem run_end : ∀ (d : List Bool), d[runOf d]? = none ∨ d[runOf d]? ≠ d[0]?
  | [] => .inl rfl
  | [a] => .inl rfl
  | a :: b :: r => by
    have ih := run_end (b :: r)
    show (a :: b :: r)[if a = b then runOf (b :: r) + 1 else 1]? = none ∨ (a :: b :: r)[if a = b then runOf (b :: r) + 1 else 1]? ≠ some a
    by_cases e : a = b
    · rw [if_pos e]
      show (b :: r)[runOf (b :: r)]? = none ∨ (b :: r)[runOf (b :: r)]? ≠ some a
      rw [e]
      exact ih
    · rw [if_neg e]
      refine .inr ?_
      show some b ≠ some a
      intro z
      exact e (Option.some.inj z).symm
/-- the run at the next place -/
theorem run_next {l : List Bool} {i : Nat} {a b : Bool} (ha : l[i]? = some a) (hb : l[i + 1]? = some b) : runOf (l.drop i) = if a = b then runOf (l.drop (i + 1)) + 1 else 1 := by
  obtain ⟨la, ea⟩ := List.getElem?_eq_some_iff.mp ha
  obtain ⟨lb, eb⟩ := List.getElem?_eq_some_iff.mp hb
  rw [List.drop_eq_getElem_cons la, ea, List.drop_eq_getElem_cons lb, eb]
  rfl
/-- where the next number may stand -/
def lowAt (l : List Bool) (i at' : Nat) : Int :=
  let lo : Int := if 0 < i ∧ l[i - 1]? = some true then at' else 0
  if l[i]? = some false then (if (runOf (l.drop i) : Int) > lo then (runOf (l.drop i) : Int) else lo) else lo
def highAt (l : List Bool) (i at' m : Nat) : Int :=
  let hi : Int := if 0 < i ∧ l[i - 1]? = some false then (at' : Int) - 1 else (m : Int) - 1
  if l[i]? = some true then (if (m : Int) - 1 - (runOf (l.drop i) : Int) < hi then (m : Int) - 1 - (runOf (l.drop i) : Int) else hi) else hi
/-- what holds ahead of turn i: m numbers are left; the last one taken stood at at' -/
structure Room' (l : List Bool) (i at' m : Nat) : Prop where
  len : m + i = l.length + 1
  le : at' ≤ m
  up : 0 < i → ∀ b, l[i - 1]? = some b → (b = true → at' + runOf (l.drop (i - 1)) ≤ m) ∧ (b = false → runOf (l.drop (i - 1)) ≤ at')
theorem room_drawn {l : List Bool} {i at' m : Nat} (R : Room' l i at' m) (hi : i ≤ l.length) : 0 ≤ lowAt l i at' ∧ lowAt l i at' ≤ highAt l i at' m ∧ highAt l i at' m < m ∧
    ∀ k : Nat, lowAt l i at' ≤ (k : Int) → (k : Int) ≤ highAt l i at' m → Room' l (i + 1) k (m - 1) ∧ (0 < i → (l[i - 1]? = some true → at' ≤ k) ∧ (l[i - 1]? = some false → k < at')) := by
  have hr := run_le (l.drop i)
  rw [List.length_drop] at hr
  have hlen := R.len
  have hle := R.le
  have key : (0 < i → ∀ b c, l[i - 1]? = some b → l[i]? = some c → runOf (l.drop (i - 1)) = if b = c then runOf (l.drop i) + 1 else 1) := fun h0 b c hb hc => by
    have := run_next (i := i - 1) hb (by rw [Nat.sub_add_cancel h0]; exact hc)
    rw [Nat.sub_add_cancel h0] at this
    exact this
  have rp : ∀ c, l[i]? = some c → 1 ≤ runOf (l.drop i) := fun c hc => by
    obtain ⟨lc, ec⟩ := List.getElem?_eq_some_iff.mp hc
    rw [List.drop_eq_getElem_cons lc]
    exact run_pos _ _
  have rp' : 0 < i → ∀ b, l[i - 1]? = some b → 1 ≤ runOf (l.drop (i - 1)) := fun h0 b hb => by
    obtain ⟨lc, ec⟩ := List.getElem?_eq_some_iff.mp hb
    rw [List.drop_eq_getElem_cons lc]
    exact run_pos _ _
  have up := R.up
  generalize runOf (l.drop (i - 1)) = r' at key rp' up
  have nx : ∀ k : Nat, (Room' l (i + 1) k (m - 1)) ↔ (m - 1 + (i + 1) = l.length + 1 ∧ k ≤ m - 1 ∧ ∀ c, l[i]? = some c → (c = true → k + runOf (l.drop i) ≤ m - 1) ∧ (c = false → runOf (l.drop i) ≤ k)) := fun k =>
    ⟨fun h => ⟨h.len, h.le, fun c hc => h.up (Nat.succ_pos i) c hc⟩, fun h => ⟨h.1, h.2.1, fun _ c hc => h.2.2 c hc⟩⟩
  simp only [nx]
  clear nx
  unfold lowAt highAt
  generalize runOf (l.drop i) = r at key rp hr ⊢
  have hi0 : i = 0 ∨ 0 < i := Nat.eq_zero_or_pos i
  rcases hi0 with h0 | h0
  · -- the first number
    have n0 : ¬ 0 < i := by omega
    simp only [n0, false_and, if_false]
    cases hc : l[i]? with
    | none =>
      have hil : l.length ≤ i := List.getElem?_eq_none_iff.mp hc
      simp only [reduceCtorEq, if_false]
      refine ⟨by omega, by omega, by omega, fun k k1 k2 => ⟨⟨by omega, by omega, fun c h => by cases h⟩, fun h => h.elim⟩⟩
    | some c =>
      have h1 := rp c hc
      have hil : i < l.length := (List.getElem?_eq_some_iff.mp hc).1
      cases c with
      | true =>
        simp only [Option.some.injEq, Bool.true_eq_false, if_false, if_true]
        refine ⟨by omega, by split <;> omega, by split <;> omega, fun k k1 k2 => ⟨⟨by omega, by split at k2 <;> omega, fun c h => ?_⟩, fun h => h.elim⟩⟩
        subst h
        exact ⟨fun _ => by split at k2 <;> omega, fun h => by cases h⟩
      | false =>
        simp only [Option.some.injEq, Bool.false_eq_true, if_false, if_true]
        refine ⟨by split <;> omega, by split <;> omega, by omega, fun k k1 k2 => ⟨⟨by omega, by omega, fun c h => ?_⟩, fun h => h.elim⟩⟩
        subst h
        refine ⟨fun h => (by cases h), fun _ => ?_⟩
        split at k1 <;> omega
  · have hb : ∃ b, l[i - 1]? = some b := ⟨_, List.getElem?_eq_getElem (show i - 1 < l.length by omega)⟩
    obtain ⟨b, hb⟩ := hb
    have hup := up h0 b hb
    have hrp := rp' h0 b hb
    simp only [h0, true_and, hb, forall_const]
    cases hc : l[i]? with
    | none =>
      have hil : l.length ≤ i := List.getElem?_eq_none_iff.mp hc
      simp only [reduceCtorEq, if_false]
      cases b with
      | true =>
        have h1 := hup.1 rfl
        simp only [Option.some.injEq, Bool.true_eq_false, if_false, if_true]
        refine ⟨by omega, by omega, by omega, fun k k1 k2 => ⟨⟨by omega, by omega, fun c h => by cases h⟩, fun _ => by omega, fun h => h.elim⟩⟩
      | false =>
        have h1 := hup.2 rfl
        simp only [Option.some.injEq, Bool.false_eq_true, if_false, if_true]
        refine ⟨by omega, by omega, by omega, fun k k1 k2 => ⟨⟨by omega, by omega, fun c h => by cases h⟩, fun h => h.elim, fun _ => by omega⟩⟩
    | some c =>
      have h2 := rp c hc
      have hk := key h0 b c hb hc
      have hil : i < l.length := (List.getElem?_eq_some_iff.mp hc).1
      cases b with
      | true =>
        have h1 := hup.1 rfl
        cases c with
        | true =>
          simp only [Option.some.injEq, Bool.true_eq_false, if_false, if_true] at hk ⊢
          refine ⟨by omega, by split <;> omega, by split <;> omega, fun k k1 k2 => ⟨⟨by omega, by split at k2 <;> omega, fun c h => ?_⟩, fun _ => by omega, fun h => h.elim⟩⟩
          subst h
          exact ⟨fun _ => by split at k2 <;> omega, fun h => by cases h⟩
        | false =>
          simp only [Option.some.injEq, Bool.true_eq_false, Bool.false_eq_true, if_false, if_true] at hk ⊢
          refine ⟨by split <;> omega, by split <;> omega, by omega, fun k k1 k2 => ⟨⟨by omega, by omega, fun c h => ?_⟩, fun _ => by split at k1 <;> omega, fun h => h.elim⟩⟩
          subst h
          refine ⟨fun h => (by cases h), fun _ => ?_⟩
          split at k1 <;> omega
      | false =>
        have h1 := hup.2 rfl
        cases c with
        | true =>
          simp only [Option.some.injEq, Bool.true_eq_false, Bool.false_eq_true, if_false, if_true] at hk ⊢
          refine ⟨by omega, by split <;> omega, by split <;> omega, fun k k1 k2 => ⟨⟨by omega, by split at k2 <;> omega, fun c h => ?_⟩, fun h => h.elim, fun _ => by split at k2 <;> omega⟩⟩
          subst h
          exact ⟨fun _ => by split at k2 <;> omega, fun h => by cases h⟩
        | false =>
          simp only [Option.some.injEq, Bool.true_eq_false, Bool.false_eq_true, if_false, if_true] at hk ⊢
          refine ⟨by split <;> omega, by split <;> omega, by omega, fun k k1 k2 => ⟨⟨by omega, by omega, fun c h => ?_⟩, fun h => h.elim, fun _ => by omega⟩⟩
          subst h
          refine ⟨fun h => (by cases h), fun _ => ?_⟩
          split at k1 <;> omega
theorem pair_lt {l : List Int} (h : l.Pairwise (· < ·)) {i j : Nat} {x y : Int} (hij : i < j) (hx : l[i]? = some x) (hy : l[j]? = some y) : x < y := by
  obtain ⟨l1, e1⟩ := List.getElem?_eq_some_iff.mp hx
  obtain ⟨l2, e2⟩ := List.getElem?_eq_some_iff.mp hy
  have := List.pairwise_iff_getElem.mp h i j l1 l2 hij
  rw [e1, e2] at this
  exact this
theorem erase_perm : ∀ (l : List Int) (k : Nat) (y : Int), l[k]? = some y → (y :: l.eraseIdx k).Perm l
  | [], _, _, h => by simp at h
  | a :: r, 0, y, h => by
    have e : a = y := by simpa using h
    subst e
    exact List.Perm.refl _
  | a :: r, k + 1, y, h => by
    have ih := erase_perm r k y h
    show (y :: a :: r.eraseIdx k).Perm (a :: r)
    exact (List.Perm.swap a y _).trans (List.Perm.cons a ih)
theorem byOf_snoc : ∀ (fd : List Int) (x y : Int), fd.getLast? = some x → byOf (fd ++ [y]) = byOf fd ++ [decide (x < y)]
  | [], x, y, h => by cases h
  | [a], x, y, h => by
    have e : a = x := by simpa using h
    subst e
    rfl
  | a :: b :: r, x, y, h => by
    have h' : (b :: r).getLast? = some x := by
      rw [List.getLast?_cons_cons] at h
      exact h
    have ih := byOf_snoc (b :: r) x y h'
    show decide (a < b) :: byOf (b :: r ++ [y]) = decide (a < b) :: (byOf (b :: r) ++ [decide (x < y)])
    rw [ih]
/-- what holds of the numbers taken and those left, ahead of turn i -/
structure Drawn (l : List Bool) (i at' : Nat) (fd lf : List Int) : Prop where
  rise : lf.Pairwise (· < ·)
  perm : (fd ++ lf).Perm (upto (l.length + 1))
  num : fd.length = i
  word : byOf fd = l.take (i - 1)
  last : 0 < i → ∃ x, fd.getLast? = some x ∧ ∀ (j : Nat) (y : Int), lf[j]? = some y → (j < at' → y < x) ∧ (at' ≤ j → x < y)
theorem drawn_start (l : List Bool) : Drawn l 0 0 [] (upto (l.length + 1)) := by
  refine ⟨?_, List.Perm.refl _, rfl, rfl, fun h => absurd h (Nat.lt_irrefl 0)⟩
  unfold upto
  exact List.pairwise_map.mpr (List.pairwise_lt_range.imp fun h => Int.ofNat_lt.mpr h)
theorem drawn_step {l : List Bool} {i at' k : Nat} {fd lf : List Int} {y : Int} (D : Drawn l i at' fd lf) (hi : i ≤ l.length) (hy : lf[k]? = some y) (hk : 0 < i → (l[i - 1]? = some true → at' ≤ k) ∧ (l[i - 1]? = some false → k < at')) :
    Drawn l (i + 1) k (fd ++ [y]) (lf.eraseIdx k) := by
  obtain ⟨lk, ek⟩ := List.getElem?_eq_some_iff.mp hy
  refine ⟨D.rise.sublist (List.eraseIdx_sublist lf k), ?_, by rw [List.length_append, D.num]; rfl, ?_, fun _ => ⟨y, by simp, fun j z hz => ?_⟩⟩
  · refine List.Perm.trans ?_ D.perm
    rw [List.append_assoc]
    refine List.Perm.append_left fd ?_
    exact erase_perm lf k y hy
  · rw [Nat.add_sub_cancel]
    rcases Nat.eq_zero_or_pos i with h0 | h0
    · subst h0
      have : fd = [] := List.length_eq_zero_iff.mp D.num
      subst this
      rfl
    · obtain ⟨x, hx, hl⟩ := D.last h0
      rw [byOf_snoc fd x y hx, D.word]
      have hb : l[i - 1]? = some (l[i - 1]'(by omega)) := List.getElem?_eq_getElem (by omega)
      generalize l[i - 1]'(by omega) = b at hb
      have et : l.take i = l.take (i - 1) ++ [b] := by
        have := List.take_add_one (l := l) (i := i - 1)
        rw [Nat.sub_add_cancel h0, hb] at this
        exact this
      rw [et]
      congr 2
      have hky := hl k y hy
      cases b with
      | true => exact decide_eq_true (hky.2 ((hk h0).1 hb))
      | false =>
        have := hky.1 ((hk h0).2 hb)
        exact decide_eq_false (by omega)
  · have rise := D.rise
    rw [List.getElem?_eraseIdx] at hz
    constructor
    · intro hjk
      rw [if_pos hjk] at hz
      exact pair_lt rise hjk hz hy
    · intro hkj
      rw [if_neg (by omega)] at hz
      exact pair_lt rise (by omega) hy hz
end K2
end
-- part ZTurn
section
set_option Elab.async false
set_option linter.all false
set_option maxRecDepth 100000
set_option maxHeartbeats 2000000
/-! What the program reckons of zigzags and cuttings is what is due; the places at which a row turns. Core Lean. -/
namespace ZG
/-- of all neighbours -/
def nb {α : Type} (f : Int → Int → α) : List Int → List α
  | x :: y :: r => f x y :: nb f (y :: r)
  | _ => []
theorem nb_len {α : Type} (f : Int → Int → α) : ∀ ns : List Int, (nb f ns).length = ns.length - 1
  | [] => rfl
  | [_] => rfl
  | x :: y :: r => by
    show (nb f (y :: r)).length + 1 = _
    rw [nb_len f (y :: r)]
    simp
theorem nb_get {α : Type} (f : Int → Int → α) : ∀ (ns : List Int) (i : Nat) (x y : Int), ns[i]? = some x → ns[i + 1]? = some y → (nb f ns)[i]? = some (f x y)
  | [], _, _, _, h, _ => by simp at h
  | [_], 0, _, _, _, h => by simp at h
  | [_], i + 1, _, _, h, _ => by simp at h
  | a :: b :: r, 0, x, y, h, h2 => by
    have e1 : a = x := Option.some.inj h
    have e2 : b = y := Option.some.inj h2
    rw [← e1, ← e2]
    rfl
  | a :: b :: r, i + 1, x, y, h, h2 => nb_get f (b :: r) i x y h h2
theorem nb_adj (f : Int → Int → Int) : ∀ ns : List Int, nb f ns = adj f ns
  | [] => rfl
  | [_] => rfl
  | x :: y :: r => by
    show f x y :: nb f (y :: r) = f x y :: adj f (y :: r)
    rw [nb_adj f (y :: r)]
theorem nb_map {α : Type} (f : Int → Int → α) (g : Int → Int) : ∀ ns : List Int, nb f (ns.map g) = nb (fun x y => f (g x) (g y)) ns
  | [] => rfl
  | [_] => rfl
  | x :: y :: r => by
    show f (g x) (g y) :: nb f ((y :: r).map g) = _
    rw [nb_map f g (y :: r)]
    rfl
theorem nb_of_map {α β : Type} (f : Int → Int → α) (g : α → β) : ∀ ns : List Int, (nb f ns).map g = nb (fun x y => g (f x y)) ns
  | [] => rfl
  | [_] => rfl
  | x :: y :: r => by
    show g (f x y) :: (nb f (y :: r)).map g = _
    rw [nb_of_map f g (y :: r)]
    rfl
theorem nb_pair {R : Int → Int → Prop} [DecidableRel R] (tr : ∀ x y z, R x y → R y z → R x z) : ∀ ns : List Int, (nb (fun x y => decide (R x y)) ns).all id = decide (ns.Pairwise R)
  | [] => by simp [nb]
  | [_] => by simp [nb]
  | x :: y :: r => by
    show (id (decide (R x y)) && (nb (fun x y => decide (R x y)) (y :: r)).all id) = _
    rw [nb_pair tr (y :: r), Bool.eq_iff_iff, Bool.and_eq_true, decide_eq_true_eq]
    show (decide (R x y) = true) ∧ _ ↔ _
    rw [decide_eq_true_eq, decide_eq_true_eq, List.pairwise_cons (a := x)]
    constructor
    · intro ⟨h1, h2⟩
      refine ⟨fun z hz => ?_, h2⟩
      rcases List.mem_cons.mp hz with e | hz
      · rw [e]; exact h1
      · exact tr x y z h1 ((List.pairwise_cons.mp h2).1 z hz)
    · intro ⟨h1, h2⟩
      exact ⟨h1 y List.mem_cons_self, h2⟩
theorem sign_prod {x y : Int} (hx : x ≠ 0) (hy : y ≠ 0) : (decide (x > 0) != decide (y > 0)) = decide (x * y < 0) := by
  by_cases h1 : x > 0 <;> by_cases h2 : y > 0
  · have : 0 < x * y := Int.mul_pos h1 h2
    simp [h1, h2]; omega
  · have hy' : y < 0 := by omega
    have : x * y < 0 := Int.mul_neg_of_pos_of_neg h1 hy'
    simp [h1, h2, this]
  · have hx' : x < 0 := by omega
    have : x * y < 0 := Int.mul_neg_of_neg_of_pos hx' h2
    simp [h1, h2, this]
  · have hx' : x < 0 := by omega
    have hy' : y < 0 := by omega
    have : 0 < x * y := Int.mul_pos_of_neg_of_neg hx' hy'
    simp [h1, h2]; omega
theorem nb_turns : ∀ ds : List Int, (0 : Int) ∉ ds → (nb (fun x y => decide (x > 0) != decide (y > 0)) ds).all id = (prods ds).all fun z => decide (z < 0)
  | [], _ => rfl
  | [_], _ => rfl
  | x :: y :: r, h => by
    show ((decide (x > 0) != decide (y > 0)) && (nb (fun x y => decide (x > 0) != decide (y > 0)) (y :: r)).all id) = (decide (x * y < 0) && (prods (y :: r)).all fun z => decide (z < 0))
    rw [nb_turns (y :: r) fun z => h (List.mem_cons_of_mem _ z), sign_prod (fun z => h (by rw [z]; exact List.mem_cons_self)) (fun z => h (by rw [z]; exact List.mem_cons_of_mem _ List.mem_cons_self))]
/-- the numbers' steps at places -/
theorem difs_at (row ps : List Int) : nb (fun h b => row.getD b.toNat 0 - row.getD h.toNat 0) ps = difs (valsAt row ps) := by
  show _ = adj (fun x y => y - x) (valsAt row ps)
  rw [← nb_adj]
  unfold valsAt
  rw [nb_map]
theorem alike_eq (ns : List Int) : (ns.all fun x => decide (x = ns.headD 0)) = alikeB ns := by
  unfold alikeB
  cases ns with
  | nil => rfl
  | cons a r =>
    rw [Bool.eq_iff_iff, List.all_eq_true, decide_eq_true_eq]
    constructor
    · intro h x hx y hy
      have h1 := of_decide_eq_true (h x hx)
      have h2 := of_decide_eq_true (h y hy)
      exact h1.trans h2.symm
    · intro h x hx
      exact decide_eq_true (h x hx a List.mem_cons_self)
theorem mono_eq (ns : List Int) : ((nb (fun x y => decide (x ≤ y)) ns).all id || (nb (fun x y => decide (x ≥ y)) ns).all id) = monoB ns := by
  unfold monoB
  rw [nb_pair (R := fun x y : Int => x ≤ y) (fun x y z h1 h2 => Int.le_trans h1 h2), nb_pair (R := fun x y : Int => x ≥ y) (fun x y z h1 h2 => Int.le_trans h2 h1)]
theorem alike_mono {ns : List Int} (h : alikeB ns = true) {p : List Int} (hp : ∀ x ∈ p, x ∈ ns) : monoB p = true := by
  unfold monoB
  have h := of_decide_eq_true h
  rw [Bool.or_eq_true, decide_eq_true_eq]
  refine .inl (List.pairwise_iff_forall_sublist.mpr fun {x y} hs => ?_)
  have hx := hp x (hs.subset List.mem_cons_self)
  have hy := hp y (hs.subset (List.mem_cons_of_mem _ List.mem_cons_self))
  rw [h x hx y hy]
  exact Int.le_refl _
def asMany (ns ps cs : List Int) : Bool := if alikeB ns = true then decide (ps.length = min 1 ns.length) && decide (cs = []) else decide (ps.length = cs.length + 2)
theorem due_eq (ns ps cs : List Int) : dueB ns ps cs = (asMany ns ps cs && ((plB ns.length ps && turnsB (valsAt ns ps)) && (plB ns.length cs && stretchesB ns (endsOf ns cs)))) := by
  unfold dueB asMany
  by_cases ha : alikeB ns = true
  · rw [if_pos ha, if_pos ha]
    by_cases hc : cs = []
    · subst hc
      have h1 : plB ns.length [] = true := by unfold plB; simp
      have h2 : stretchesB ns (endsOf ns []) = true := by
        show (monoB (part ns 0 ((ns.length : Int) - 1)) && true) = true
        rw [Bool.and_true]
        exact alike_mono ha fun x hx => List.mem_of_mem_drop (List.mem_of_mem_take hx)
      rw [h1, h2, show (ns.take 1).length = min 1 ns.length from List.length_take ..]
      cases plB ns.length ps <;> cases turnsB (valsAt ns ps) <;> simp
    · rw [decide_eq_false hc]
      cases plB ns.length ps <;> cases turnsB (valsAt ns ps) <;> cases plB ns.length cs <;> simp
  · rw [if_neg ha, if_neg ha]
    cases plB ns.length ps <;> cases turnsB (valsAt ns ps) <;> cases plB ns.length cs <;> cases stretchesB ns (endsOf ns cs) <;> simp
/-! ### where a row turns -/
def tStep (i : Nat) (x y : Int) (st : List Nat × Option Bool) : List Nat × Option Bool :=
  if x = y then st else (if st.2 = some (!decide (x < y)) then st.1 ++ [i] else st.1, some (decide (x < y)))
def tRun (ns : List Int) : Nat → List Nat × Option Bool
  | 0 => ([], none)
  | k + 1 => tStep k (ns.getD k 0) (ns.getD (k + 1) 0) (tRun ns k)
def turnsOf (ns : List Int) : List Int := (tRun ns (ns.length - 1)).1.map fun (p : Nat) => (p : Int)
/-- from p to q in one direction, not all alike -/
def Dir (ns : List Int) (b : Bool) (p q : Nat) : Prop := (∀ i, p ≤ i → i < q → if b = true then ns.getD i 0 ≤ ns.getD (i + 1) 0 else ns.getD (i + 1) 0 ≤ ns.getD i 0) ∧ if b = true then ns.getD p 0 < ns.getD q 0 else ns.getD q 0 < ns.getD p 0
def dirAt (b : Bool) (m j : Nat) : Bool := if (m - j) % 2 = 0 then b else !b
structure TI (ns : List Int) (k : Nat) (st : List Nat × Option Bool) : Prop where
  up : st.1.Pairwise (· < ·)
  within : ∀ p ∈ st.1, 1 ≤ p ∧ p < k
  flat : st.2 = none → st.1 = [] ∧ ∀ i, i ≤ k → ns.getD i 0 = ns.getD 0 0
  parts : ∀ b, st.2 = some b → ∀ j p q, j ≤ st.1.length → (0 :: (st.1 ++ [k]))[j]? = some p → (0 :: (st.1 ++ [k]))[j + 1]? = some q → Dir ns (dirAt b st.1.length j) p q
theorem tRun_ok (ns : List Int) : ∀ k, TI ns k (tRun ns k)
  | 0 => ⟨.nil, fun p hp => (by cases hp), fun _ => ⟨rfl, fun i hi => by rw [Nat.le_zero.mp hi]⟩, fun b e => (by cases e)⟩
  | k + 1 => by
    obtain ⟨h1, h2, h3, h4⟩ := tRun_ok ns k
    show TI ns (k + 1) (tStep k (ns.getD k 0) (ns.getD (k + 1) 0) (tRun ns k))
    generalize tRun ns k = st at h1 h2 h3 h4
    obtain ⟨c, rose⟩ := st
    dsimp only at h1 h2 h3 h4
    have within' : ∀ p ∈ c, 1 ≤ p ∧ p < k + 1 := fun p hp => ⟨(h2 p hp).1, Nat.lt_succ_of_lt (h2 p hp).2⟩
    -- places ahead of the last one
    have ahead : ∀ (l : List Nat) (j p q : Nat), j < c.length → (0 :: (c ++ l))[j]? = some p → (0 :: (c ++ l))[j + 1]? = some q → (0 :: (c ++ [k]))[j]? = some p ∧ (0 :: (c ++ [k]))[j + 1]? = some q := by
      intro l j p q hj hp hq
      rw [← List.cons_append, List.getElem?_append_left (by simp; omega)] at hp hq
      rw [← List.cons_append, List.getElem?_append_left (by simp; omega), List.getElem?_append_left (by simp; omega)]
      exact ⟨hp, hq⟩
    have lastq : ∀ (x : Nat), (0 :: (c ++ [x]))[c.length + 1]? = some x := fun x => by simp
    have lastp : ∀ (x y : Nat), (0 :: (c ++ [x]))[c.length]? = (0 :: (c ++ [y]))[c.length]? := fun x y => by
      rw [← List.cons_append, ← List.cons_append, List.getElem?_append_left (by simp), List.getElem?_append_left (by simp)]
    have dlast : ∀ b, dirAt b c.length c.length = b := fun b => by unfold dirAt; rw [Nat.sub_self]; rfl
    unfold tStep
    by_cases hxy : ns.getD k 0 = ns.getD (k + 1) 0
    · rw [if_pos hxy]
      refine ⟨h1, within', fun e => ⟨(h3 e).1, fun i hi => ?_⟩, fun b e j p q hj hp hq => ?_⟩
      · rcases Nat.lt_or_ge k i with g | g
        · have : i = k + 1 := by omega
          rw [this, ← hxy]
          exact (h3 e).2 k (Nat.le_refl _)
        · exact (h3 e).2 i g
      · dsimp only at hj hp hq ⊢
        rcases Nat.lt_or_ge j c.length with g | g
        · obtain ⟨a1, a2⟩ := ahead _ j p q g hp hq
          exact h4 b e j p q hj a1 a2
        · have ej : j = c.length := by omega
          subst ej
          rw [lastq] at hq
          rw [lastp _ k] at hp
          cases hq
          have d := h4 b e c.length p k hj hp (lastq k)
          rw [dlast] at d ⊢
          obtain ⟨d1, d2⟩ := d
          refine ⟨fun i hi hk => ?_, ?_⟩
          · rcases Nat.lt_or_ge i k with g2 | g2
            · exact d1 i hi g2
            · have : i = k := by omega
              rw [this, hxy]
              cases b <;> simp
          · rw [← hxy]; exact d2
    · rw [if_neg hxy]
      cases rose with
      | none =>
        obtain ⟨e0, hal⟩ := h3 rfl
        subst e0
        rw [if_neg (by simp)]
        refine ⟨.nil, fun p hp => (by cases hp), fun e => (by cases e), fun b e j p q hj hp hq => ?_⟩
        cases e
        dsimp only at hj hp hq ⊢
        have ej : j = 0 := Nat.le_zero.mp hj
        subst ej
        cases hp
        cases hq
        rw [show dirAt (decide (ns.getD k 0 < ns.getD (k + 1) 0)) ([] : List Nat).length 0 = decide (ns.getD k 0 < ns.getD (k + 1) 0) from rfl]
        have e0 := hal k (Nat.le_refl _)
        refine ⟨fun i hi hk => ?_, ?_⟩
        · rcases Nat.lt_or_ge i k with g2 | g2
          · rw [hal i (Nat.le_of_lt g2), hal (i + 1) g2]
            split <;> omega
          · have : i = k := by omega
            rw [this]
            by_cases hlt : ns.getD k 0 < ns.getD (k + 1) 0
            · rw [if_pos (decide_eq_true hlt)]; omega
            · rw [if_neg (by simpa using hlt)]; omega
        · rw [← e0]
          by_cases hlt : ns.getD k 0 < ns.getD (k + 1) 0
          · rw [if_pos (decide_eq_true hlt)]; omega
          · rw [if_neg (by simpa using hlt)]; omega
      | some b0 =>
        have p4 := h4 b0 rfl
        by_cases hturn : b0 = !decide (ns.getD k 0 < ns.getD (k + 1) 0)
        · rw [if_pos (by rw [hturn])]
          have hk1 : 1 ≤ k := by
            rcases Nat.eq_zero_or_pos k with g | g
            · exfalso
              have hc0 : c = [] := by
                cases c with
                | nil => rfl
                | cons p r =>
                  have := h2 p List.mem_cons_self
                  omega
              subst hc0
              subst g
              obtain ⟨_, d2⟩ := p4 0 0 0 (Nat.le_refl _) rfl rfl
              split at d2 <;> omega
            · exact g
          refine ⟨List.pairwise_append.mpr ⟨h1, List.pairwise_singleton _ _, fun x hx y hy => by rw [List.mem_singleton.mp hy]; exact (h2 x hx).2⟩, fun p hp => ?_, fun e => (by cases e), fun b e j p q hj hp hq => ?_⟩
          · rcases List.mem_append.mp hp with hp | hp
            · exact within' p hp
            · rw [List.mem_singleton.mp hp]; exact ⟨hk1, Nat.lt_succ_self _⟩
          · cases e
            dsimp only at hj hp hq ⊢
            rw [List.length_append] at hj ⊢
            rw [List.append_assoc] at hp hq
            rcases Nat.lt_or_ge j c.length with g | g
            · obtain ⟨a1, a2⟩ := ahead _ j p q g hp hq
              have d := p4 j p q (Nat.le_of_lt g) a1 a2
              have ed : dirAt (decide (ns.getD k 0 < ns.getD (k + 1) 0)) (c.length + [k].length) j = dirAt b0 c.length j := by
                unfold dirAt
                rw [hturn, Bool.not_not]
                have : (c.length + [k].length - j) % 2 = (c.length - j + 1) % 2 := by
                  congr 1
                  show c.length + 1 - j = _
                  omega
                rw [this]
                by_cases g2 : (c.length - j) % 2 = 0
                · rw [if_neg (by omega), if_pos g2]
                · rw [if_pos (by omega), if_neg g2]
              rw [ed]
              exact d
            · rcases Nat.lt_or_ge c.length j with g2 | g2
              · have ej : j = c.length + 1 := by
                  have : j ≤ c.length + 1 := hj
                  omega
                subst ej
                have ep : p = k := by
                  have : (0 :: (c ++ ([k] ++ [k + 1])))[c.length + 1]? = some k := by simp
                  rw [this] at hp
                  exact (Option.some.inj hp).symm
                have eq : q = k + 1 := by
                  have : (0 :: (c ++ ([k] ++ [k + 1])))[c.length + 1 + 1]? = some (k + 1) := by simp
                  rw [this] at hq
                  exact (Option.some.inj hq).symm
                subst ep eq
                have ed : dirAt (decide (ns.getD p 0 < ns.getD (p + 1) 0)) (c.length + [p].length) (c.length + 1) = decide (ns.getD p 0 < ns.getD (p + 1) 0) := by
                  unfold dirAt
                  rw [show c.length + [p].length - (c.length + 1) = 0 from Nat.sub_self _]
                  rfl
                rw [ed]
                refine ⟨fun i hi hk => ?_, ?_⟩
                · have : i = p := by omega
                  rw [this]
                  by_cases hlt : ns.getD p 0 < ns.getD (p + 1) 0
                  · rw [if_pos (decide_eq_true hlt)]; omega
                  · rw [if_neg (by simpa using hlt)]; omega
                · by_cases hlt : ns.getD p 0 < ns.getD (p + 1) 0
                  · rw [if_pos (decide_eq_true hlt)]; omega
                  · rw [if_neg (by simpa using hlt)]; omega
              · have ej : j = c.length := by omega
                subst ej
                have e1 : (0 :: (c ++ ([k] ++ [k + 1])))[c.length]? = (0 :: (c ++ [k]))[c.length]? := by
                  rw [← List.cons_append, ← List.cons_append, List.getElem?_append_left (by simp), List.getElem?_append_left (by simp)]
                have e2 : (0 :: (c ++ ([k] ++ [k + 1])))[c.length + 1]? = some k := by simp
                rw [e1] at hp
                rw [e2] at hq
                cases hq
                have d := p4 c.length p k (Nat.le_refl _) hp (lastq k)
                have ed : dirAt (decide (ns.getD k 0 < ns.getD (k + 1) 0)) (c.length + [k].length) c.length = b0 := by
                  unfold dirAt
                  rw [show c.length + [k].length - c.length = 1 by show c.length + 1 - c.length = 1; omega]
                  rw [hturn]
                  rfl
                rw [dlast] at d
                rw [ed]
                exact d
        · have eb : b0 = decide (ns.getD k 0 < ns.getD (k + 1) 0) := by
            revert hturn
            cases b0 <;> cases decide (ns.getD k 0 < ns.getD (k + 1) 0) <;> simp
          rw [if_neg (fun z => hturn (by injection z))]
          refine ⟨h1, within', fun e => (by cases e), fun b e j p q hj hp hq => ?_⟩
          cases e
          dsimp only at hj hp hq ⊢
          rw [← eb]
          rcases Nat.lt_or_ge j c.length with g | g
          · obtain ⟨a1, a2⟩ := ahead _ j p q g hp hq
            exact p4 j p q hj a1 a2
          · have ej : j = c.length := by omega
            subst ej
            rw [lastq] at hq
            rw [lastp _ k] at hp
            cases hq
            have d := p4 c.length p k hj hp (lastq k)
            rw [dlast] at d ⊢
            obtain ⟨d1, d2⟩ := d
            have hs : if b0 = true then ns.getD k 0 < ns.getD (k + 1) 0 else ns.getD (k + 1) 0 < ns.getD k 0 := by
              rw [eb]
              by_cases hlt : ns.getD k 0 < ns.getD (k + 1) 0
              · rw [if_pos (decide_eq_true hlt)]; exact hlt
              · rw [if_neg (by simpa using hlt)]; omega
            refine ⟨fun i hi hk => ?_, ?_⟩
            · rcases Nat.lt_or_ge i k with g2 | g2
              · exact d1 i hi g2
              · have : i = k := by omega
                rw [this]
                split at hs <;> rename_i hb
                · rw [if_pos hb]; omega
                · rw [if_neg hb]; omega
            · split at hs <;> rename_i hb
              · rw [if_pos hb] at d2 ⊢; omega
              · rw [if_neg hb] at d2 ⊢; omega
theorem pair_of {R : Int → Int → Prop} (tr : ∀ x y z, R x y → R y z → R x z) : ∀ l : List Int, (∀ (j : Nat) (x y : Int), l[j]? = some x → l[j + 1]? = some y → R x y) → l.Pairwise R
  | [], _ => .nil
  | [_], _ => List.pairwise_singleton _ _
  | x :: y :: r, h => by
    have ih := pair_of tr (y :: r) fun j a b ha hb => h (j + 1) a b ha hb
    have hxy := h 0 x y rfl rfl
    refine List.pairwise_cons.mpr ⟨fun z hz => ?_, ih⟩
    rcases List.mem_cons.mp hz with e | hz
    · rw [e]; exact hxy
    · exact tr x y z hxy ((List.pairwise_cons.mp ih).1 z hz)
theorem adj_inv (f : Int → Int → Int) : ∀ (l : List Int) (j : Nat) (z : Int), (adj f l)[j]? = some z → ∃ x y, l[j]? = some x ∧ l[j + 1]? = some y ∧ z = f x y
  | [], _, _, h => by simp [adj] at h
  | [_], _, _, h => by simp [adj] at h
  | x :: y :: r, 0, z, h => ⟨x, y, rfl, rfl, (Option.some.inj h).symm⟩
  | x :: y :: r, j + 1, z, h => adj_inv f (y :: r) j z h
theorem turns_of {l : List Int} (h1 : ∀ (j : Nat) (x y : Int), l[j]? = some x → l[j + 1]? = some y → x ≠ y) (h2 : ∀ (j : Nat) (x y z : Int), l[j]? = some x → l[j + 1]? = some y → l[j + 2]? = some z → (y - x) * (z - y) < 0) : turnsB l = true := by
  unfold turnsB
  rw [Bool.and_eq_true, Bool.not_eq_true', decide_eq_false_iff_not, List.all_eq_true]
  refine ⟨fun h0 => ?_, fun z hz => decide_eq_true ?_⟩
  · obtain ⟨j, hj⟩ := List.getElem?_of_mem h0
    obtain ⟨x, y, a, b, e⟩ := adj_inv _ l j 0 hj
    exact h1 j x y a b (by omega)
  · obtain ⟨j, hj⟩ := List.getElem?_of_mem hz
    obtain ⟨u, v, a, b, e⟩ := adj_inv _ _ j z hj
    obtain ⟨x, y, a1, b1, e1⟩ := adj_inv _ l j u a
    obtain ⟨y', w, a2, b2, e2⟩ := adj_inv _ l (j + 1) v b
    rw [b1] at a2
    cases a2
    rw [e, e1, e2]
    exact h2 j x y w a1 b1 b2
theorem stretches_of {row : List Int} : ∀ {es : List Int}, (∀ (j : Nat) (a b : Int), es[j]? = some a → es[j + 1]? = some b → monoB (part row a b) = true) → stretchesB row es = true
  | [], _ => rfl
  | [_], _ => rfl
  | a :: b :: r, h => by
    show (monoB (part row a b) && stretchesB row (b :: r)) = true
    rw [h 0 a b rfl rfl, stretches_of fun j x y hx hy => h (j + 1) x y hx hy]
    rfl
theorem getD_of {ns : List Int} {i : Nat} {x : Int} (h : ns[i]? = some x) : ns.getD i 0 = x := by
  rw [List.getD_eq_getElem?_getD, h]; rfl
theorem part_in {ns : List Int} {p q j : Nat} {x : Int} (h : (part ns (p : Int) (q : Int))[j]? = some x) : ns[p + j]? = some x ∧ p + j ≤ q := by
  unfold part at h
  rw [List.getElem?_take] at h
  split at h
  · rename_i hj
    rw [List.getElem?_drop, Int.toNat_natCast] at h
    exact ⟨h, by omega⟩
  · cases h
theorem dir_mono {ns : List Int} {b : Bool} {p q : Nat} (h : Dir ns b p q) : monoB (part ns (p : Int) (q : Int)) = true := by
  unfold monoB
  rw [Bool.or_eq_true, decide_eq_true_eq, decide_eq_true_eq]
  obtain ⟨h1, _⟩ := h
  cases b with
  | true =>
    refine .inl (pair_of (R := fun x y : Int => x ≤ y) (fun x y z a b => Int.le_trans a b) _ fun j x y hx hy => ?_)
    obtain ⟨a1, a2⟩ := part_in hx
    obtain ⟨b1, b2⟩ := part_in hy
    have := h1 (p + j) (Nat.le_add_right _ _) (by omega)
    rw [if_pos rfl, getD_of a1, show p + j + 1 = p + (j + 1) from rfl, getD_of b1] at this
    exact this
  | false =>
    refine .inr (pair_of (R := fun x y : Int => x ≥ y) (fun x y z a b => Int.le_trans b a) _ fun j x y hx hy => ?_)
    obtain ⟨a1, a2⟩ := part_in hx
    obtain ⟨b1, b2⟩ := part_in hy
    have := h1 (p + j) (Nat.le_add_right _ _) (by omega)
    rw [if_neg (by decide), getD_of a1, show p + j + 1 = p + (j + 1) from rfl, getD_of b1] at this
    exact this
theorem dir_flip (b : Bool) {m j : Nat} (h : j < m) : dirAt b m (j + 1) = !dirAt b m j := by
  unfold dirAt
  have : (m - j) = (m - (j + 1)) + 1 := by omega
  rw [this]
  by_cases g : (m - (j + 1)) % 2 = 0
  · rw [if_pos g, if_neg (by omega), Bool.not_not]
  · rw [if_neg g, if_pos (by omega)]
def zigOf (ns : List Int) : List Int := 0 :: (turnsOf ns ++ [(ns.length : Int) - 1])
theorem turns_in {ns : List Int} (h : alikeB ns = false) : (turnsOf ns).Pairwise (· < ·) ∧ ∀ c ∈ turnsOf ns, 1 ≤ c ∧ c < (ns.length : Int) - 1 := by
  have T := tRun_ok ns (ns.length - 1)
  unfold turnsOf
  refine ⟨?_, fun c hc => ?_⟩
  · rw [List.pairwise_map]
    exact T.up.imp fun h => by omega
  · obtain ⟨p, hp, rfl⟩ := List.mem_map.mp hc
    have := T.within p hp
    omega
theorem len_two {ns : List Int} (h : alikeB ns = false) : 2 ≤ ns.length := by
  rcases Nat.lt_or_ge ns.length 2 with g | g
  · exfalso
    have : alikeB ns = true := by
      unfold alikeB
      refine decide_eq_true fun x hx y hy => ?_
      match ns, g with
      | [], _ => cases hx
      | [a], _ => rw [List.mem_singleton.mp hx, List.mem_singleton.mp hy]
    rw [this] at h
    cases h
  · exact g
/-- the zigzag and the cutting of where a row turns -/
theorem due_turns {ns : List Int} (h : alikeB ns = false) : dueB ns (zigOf ns) (turnsOf ns) = true := by
  have hl := len_two h
  obtain ⟨c1, c2⟩ := turns_in h
  have T := tRun_ok ns (ns.length - 1)
  -- the list of places, by numbers
  have ez : zigOf ns = (0 :: ((tRun ns (ns.length - 1)).1 ++ [ns.length - 1])).map fun (p : Nat) => (p : Int) := by
    unfold zigOf turnsOf
    rw [List.map_cons, List.map_append, List.map_singleton]
    congr 2
    rw [show ((ns.length - 1 : Nat) : Int) = (ns.length : Int) - 1 by omega]
  obtain ⟨b, hb⟩ : ∃ b, (tRun ns (ns.length - 1)).2 = some b := by
    cases e : (tRun ns (ns.length - 1)).2 with
    | some b => exact ⟨b, rfl⟩
    | none =>
      exfalso
      obtain ⟨_, hal⟩ := T.flat e
      have : alikeB ns = true := by
        unfold alikeB
        refine decide_eq_true fun x hx y hy => ?_
        obtain ⟨i, hi⟩ := List.getElem?_of_mem hx
        obtain ⟨j, hj⟩ := List.getElem?_of_mem hy
        have li : i < ns.length := (List.getElem?_eq_some_iff.mp hi).1
        have lj : j < ns.length := (List.getElem?_eq_some_iff.mp hj).1
        rw [← getD_of hi, ← getD_of hj, hal i (by omega), hal j (by omega)]
      rw [this] at h
      cases h
  have parts := T.parts b hb
  generalize hc : (tRun ns (ns.length - 1)).1 = c at ez parts
  generalize he : 0 :: (c ++ [ns.length - 1]) = e at ez parts
  have hel : e.length = c.length + 2 := by rw [← he]; simp
  have dirs : ∀ (j p q : Nat), e[j]? = some p → e[j + 1]? = some q → Dir ns (dirAt b c.length j) p q := fun j p q hp hq => by
    have : j + 1 < e.length := (List.getElem?_eq_some_iff.mp hq).1
    exact parts j p q (by omega) hp hq
  have hzp : (zigOf ns).Pairwise (· < ·) := by
    unfold zigOf
    refine List.pairwise_cons.mpr ⟨fun x hx => ?_, List.pairwise_append.mpr ⟨c1, List.pairwise_singleton _ _, fun x hx y hy => by rw [List.mem_singleton.mp hy]; exact (c2 x hx).2⟩⟩
    rcases List.mem_append.mp hx with hx | hx
    · have := c2 x hx; omega
    · rw [List.mem_singleton.mp hx]; omega
  have hzw : ∀ x ∈ zigOf ns, 0 ≤ x ∧ x < (ns.length : Int) := by
    intro x hx
    unfold zigOf at hx
    rcases List.mem_cons.mp hx with e | hx
    · rw [e]; omega
    · rcases List.mem_append.mp hx with hx | hx
      · have := c2 x hx; omega
      · rw [List.mem_singleton.mp hx]; omega
  have pl1 : plB ns.length (zigOf ns) = true := by
    unfold plB
    rw [decide_eq_true hzp, Bool.true_and, List.all_eq_true]
    intro x hx
    have := hzw x hx
    rw [decide_eq_true this.1, decide_eq_true this.2]
    rfl
  have pl2 : plB ns.length (turnsOf ns) = true := by
    unfold plB
    rw [decide_eq_true c1, Bool.true_and, List.all_eq_true]
    intro x hx
    have := c2 x hx
    rw [decide_eq_true (show 0 ≤ x by omega), decide_eq_true (show x < (ns.length : Int) by omega)]
    rfl
  have vals : ∀ (j : Nat) (x : Int), (valsAt ns (zigOf ns))[j]? = some x → ∃ p : Nat, e[j]? = some p ∧ x = ns.getD p 0 := by
    intro j x hx
    unfold valsAt at hx
    rw [ez, List.map_map, List.getElem?_map] at hx
    cases g : e[j]? with
    | none => rw [g] at hx; cases hx
    | some p =>
      rw [g] at hx
      exact ⟨p, rfl, (Option.some.inj hx).symm⟩
  have tb : turnsB (valsAt ns (zigOf ns)) = true := by
    refine turns_of (fun j x y hx hy => ?_) fun j x y z hx hy hz => ?_
    · obtain ⟨p, hp, rfl⟩ := vals j x hx
      obtain ⟨q, hq, rfl⟩ := vals (j + 1) y hy
      obtain ⟨_, d⟩ := dirs j p q hp hq
      split at d <;> omega
    · obtain ⟨p, hp, rfl⟩ := vals j x hx
      obtain ⟨q, hq, rfl⟩ := vals (j + 1) y hy
      obtain ⟨r, hr, rfl⟩ := vals (j + 2) z hz
      have lr : j + 2 < e.length := (List.getElem?_eq_some_iff.mp hr).1
      obtain ⟨_, d1⟩ := dirs j p q hp hq
      obtain ⟨_, d2⟩ := dirs (j + 1) q r hq hr
      rw [dir_flip b (by omega)] at d2
      cases g : dirAt b c.length j with
      | true =>
        rw [g] at d1 d2
        rw [if_pos rfl] at d1
        rw [if_neg (by decide)] at d2
        exact Int.mul_neg_of_pos_of_neg (by omega) (by omega)
      | false =>
        rw [g] at d1 d2
        rw [if_neg (by decide)] at d1
        rw [if_pos (by decide)] at d2
        exact Int.mul_neg_of_neg_of_pos (by omega) (by omega)
  have sb : stretchesB ns (endsOf ns (turnsOf ns)) = true := by
    refine stretches_of fun j x y hx hy => ?_
    have e1 : endsOf ns (turnsOf ns) = zigOf ns := rfl
    rw [e1, ez, List.getElem?_map] at hx hy
    cases g1 : e[j]? with
    | none => rw [g1] at hx; cases hx
    | some p =>
      cases g2 : e[j + 1]? with
      | none => rw [g2] at hy; cases hy
      | some q =>
        rw [g1] at hx
        rw [g2] at hy
        cases hx
        cases hy
        exact dir_mono (dirs j p q g1 g2)
  unfold dueB
  rw [pl1, pl2, tb, if_neg (by rw [h]; decide), sb]
  have : (zigOf ns).length = (turnsOf ns).length + 2 := by unfold zigOf; simp
  rw [this]
  simp
/-- and of a row of which all are alike -/
def zigAlike (ns : List Int) : List Int := (List.range (min 1 ns.length)).map fun (p : Nat) => (p : Int)
theorem due_alike {ns : List Int} (h : alikeB ns = true) : dueB ns (zigAlike ns) [] = true := by
  unfold dueB
  rw [if_pos h]
  cases ns with
  | nil => decide +kernel
  | cons a r =>
    have e1 : zigAlike (a :: r) = [0] := by
      unfold zigAlike
      rw [show min 1 (a :: r).length = 1 by rw [List.length_cons]; omega]
      rfl
    rw [e1]
    have e2 : plB (a :: r).length [0] = true := by
      unfold plB
      simp
    have e3 : plB (a :: r).length [] = true := by unfold plB; simp
    rw [e2, e3]
    rfl
theorem stretches_nb (row : List Int) : ∀ es : List Int, stretchesB row es = (nb (fun x y => monoB (part row x y)) es).all id
  | [] => rfl
  | [_] => rfl
  | a :: b :: r => by
    show (monoB (part row a b) && stretchesB row (b :: r)) = (monoB (part row a b) && (nb (fun x y => monoB (part row x y)) (b :: r)).all id)
    rw [stretches_nb row (b :: r)]
theorem rise_len : ∀ (l : List Int) (a b : Int), l.Pairwise (· < ·) → (∀ x ∈ l, a ≤ x ∧ x < b) → l.length ≤ (b - a).toNat
  | [], _, _, _, _ => Nat.zero_le _
  | x :: r, a, b, h, hb => by
    obtain ⟨h1, h2⟩ := List.pairwise_cons.mp h
    have ih := rise_len r (x + 1) b h2 fun y hy => ⟨by have := h1 y hy; omega, (hb y (List.mem_cons_of_mem _ hy)).2⟩
    have hx := hb x List.mem_cons_self
    rw [List.length_cons]
    omega
end ZG
end
-- part MathO
section
set_option Elab.async false
set_option linter.all false
set_option maxRecDepth 100000
set_option maxHeartbeats 2000000
/-! The order of a number and the number of an order, as functions. -/
namespace K2
open PySem PySem.Spec PyProof.Rows L2 RFI K1 ZG
/-! ### in how many ways a word goes on, by the rank of its first number -/
def ahead (l : List Bool) : List Int := RF.run (l.reverse.map (!·)) [1]
theorem ahead_nil : ahead [] = [1] := rfl
theorem ahead_cons (c : Bool) (l : List Bool) : ahead (c :: l) = RF.step (!c) (ahead l) := by
  unfold ahead
  rw [List.reverse_cons, List.map_append, RF.run_app]
  rfl
theorem ahead_len (l : List Bool) : (ahead l).length = l.length + 1 := by
  unfold ahead
  rw [RF.run_len, List.length_map, List.length_reverse]
  show 1 + l.length = _
  omega
theorem ahead_sum (l : List Bool) : (ahead l).sum = RF.cnt l := by
  show RF.cnt (l.reverse.map (!·)) = _
  rw [RF.cnt_not, RF.cnt_rev]
theorem ahead_nn (l : List Bool) : ∀ v ∈ ahead l, 0 ≤ v := (RF.run_pos _ RF.pos_one).1
theorem pre_at : ∀ (ws : List Int) (s : Int) (r : Nat), r < ws.length → (RF.pre s ws)[r]? = some (s + (ws.take (r + 1)).sum)
  | [], _, r, h => absurd h (Nat.not_lt_zero r)
  | w :: ws, s, 0, _ => by
    show some (s + w) = some (s + (w + 0))
    rw [Int.add_zero]
  | w :: ws, s, r + 1, h => by
    show (RF.pre (s + w) ws)[r]? = _
    rw [pre_at ws (s + w) r (Nat.lt_of_succ_lt_succ h), List.take_succ_cons, List.sum_cons, Int.add_assoc]
theorem stepU_at (ws : List Int) (r : Nat) (h : r ≤ ws.length) : (RF.stepU ws)[r]? = some (ws.take r).sum := by
  cases r with
  | zero => rfl
  | succ r =>
    show (RF.pre 0 ws)[r]? = _
    rw [pre_at ws 0 r h, Int.zero_add]
theorem sufs_at : ∀ (ws : List Int) (r : Nat), r ≤ ws.length → (RF.sufs ws)[r]? = some (ws.drop r).sum
  | [], 0, _ => rfl
  | [], r + 1, h => absurd h (Nat.not_succ_le_zero r)
  | w :: ws, 0, _ => rfl
  | w :: ws, r + 1, h => sufs_at ws r (Nat.le_of_succ_le_succ h)
/-- the numbers allowed behind one of rank r -/
def partW (c : Bool) (r : Nat) (ws : List Int) : List Int := if c then ws.drop r else ws.take r
theorem ahead_at (c : Bool) (l : List Bool) (r : Nat) (h : r ≤ l.length + 1) : (ahead (c :: l))[r]? = some (partW c r (ahead l)).sum := by
  have hl := ahead_len l
  rw [ahead_cons]
  cases c with
  | true =>
    show (RF.stepD (ahead l))[r]? = _
    rw [RF.stepD_sufs]
    exact sufs_at _ r (by omega)
  | false => exact stepU_at _ r (by omega)
def absI (z : Int) : Int := if z < 0 then -z else z
theorem nb_stepU : ∀ (ws : List Int) (s : Int), (∀ v ∈ ws, 0 ≤ v) → nb (fun x y => absI (y - x)) (s :: RF.pre s ws) = ws
  | [], _, _ => rfl
  | w :: ws, s, h => by
    have h0 := h w List.mem_cons_self
    show absI (s + w - s) :: nb (fun x y => absI (y - x)) ((s + w) :: RF.pre (s + w) ws) = w :: ws
    rw [nb_stepU ws (s + w) fun v hv => h v (List.mem_cons_of_mem _ hv), show s + w - s = w by omega]
    unfold absI
    rw [if_neg (by omega)]
theorem nb_sufs : ∀ ws : List Int, (∀ v ∈ ws, 0 ≤ v) → nb (fun x y => absI (y - x)) (RF.sufs ws) = ws
  | [], _ => rfl
  | [w], h => by
    have h0 := h w List.mem_cons_self
    show absI (0 - (w + 0)) :: [] = [w]
    unfold absI
    rw [Int.add_zero]
    split
    · rw [show -(0 - w) = w by omega]
    · rw [show 0 - w = w by omega]
  | w :: v :: ws, h => by
    have h0 := h w List.mem_cons_self
    have ih := nb_sufs (v :: ws) fun z hz => h z (List.mem_cons_of_mem _ hz)
    show absI ((v + ws.sum) - (w + (v :: ws).sum)) :: nb (fun x y => absI (y - x)) (RF.sufs (v :: ws)) = w :: v :: ws
    rw [ih, List.sum_cons]
    unfold absI
    split
    · rw [show -(v + ws.sum - (w + (v + ws.sum))) = w by omega]
    · rw [show v + ws.sum - (w + (v + ws.sum)) = w by omega]
theorem shorter (c : Bool) (l : List Bool) : nb (fun x y => absI (y - x)) (ahead (c :: l)) = ahead l := by
  rw [ahead_cons]
  cases c with
  | true =>
    show nb _ (RF.stepD (ahead l)) = _
    rw [RF.stepD_sufs]
    exact nb_sufs _ (ahead_nn l)
  | false => exact nb_stepU _ 0 (ahead_nn l)
/-! ### the rank that a number asks for -/
def seek : List Int → Int → Nat × Int
  | [], x => (0, x)
  | w :: ws, x => if w ≤ x then ((seek ws (x - w)).1 + 1, (seek ws (x - w)).2) else (0, x)
theorem seek_sum : ∀ (ws : List Int) (x : Int), (seek ws x).2 = x - (ws.take (seek ws x).1).sum
  | [], x => by show x = x - 0; omega
  | w :: ws, x => by
    unfold seek
    split
    · show (seek ws (x - w)).2 = x - ((w :: ws).take ((seek ws (x - w)).1 + 1)).sum
      rw [seek_sum ws (x - w), List.take_succ_cons, List.sum_cons]
      omega
    · show x = x - 0
      omega
theorem seek_in : ∀ (ws : List Int) (x : Int), 0 ≤ x → x < ws.sum → ∃ w, ws[(seek ws x).1]? = some w ∧ 0 ≤ (seek ws x).2 ∧ (seek ws x).2 < w
  | [], x, h0, h1 => by
    have : x < 0 := h1
    omega
  | w :: ws, x, h0, h1 => by
    unfold seek
    rw [List.sum_cons] at h1
    split
    · exact seek_in ws (x - w) (by omega) (by omega)
    · exact ⟨w, rfl, h0, by show x < w; omega⟩
/-- within a first part whose sum is more -/
theorem seek_take : ∀ (ws : List Int) (x : Int) (r : Nat), 0 ≤ x → x < (ws.take r).sum → (∀ v ∈ ws, 0 ≤ v) → (seek ws x).1 < r
  | ws, x, 0, h0, h1, _ => by
    have : x < 0 := h1
    omega
  | [], x, r + 1, h0, h1, _ => by
    have : x < 0 := h1
    omega
  | w :: ws, x, r + 1, h0, h1, h2 => by
    unfold seek
    rw [List.take_succ_cons, List.sum_cons] at h1
    split
    · exact Nat.succ_lt_succ (seek_take ws (x - w) r (by omega) (by omega) fun v hv => h2 v (List.mem_cons_of_mem _ hv))
    · exact Nat.succ_pos r
theorem sum_nn : ∀ (ws : List Int), (∀ v ∈ ws, 0 ≤ v) → 0 ≤ ws.sum := RF.sum_nonneg
theorem seek_at : ∀ (ws : List Int) (d : Nat) (y w : Int), (∀ v ∈ ws, 0 ≤ v) → ws[d]? = some w → 0 ≤ y → y < w → seek ws ((ws.take d).sum + y) = (d, y)
  | [], d, y, w, _, h, _, _ => by simp at h
  | v :: ws, 0, y, w, _, h, h1, h2 => by
    have e : v = w := by simpa using h
    subst e
    show (if v ≤ 0 + y then _ else _) = _
    rw [if_neg (by omega)]
    show (0, 0 + y) = (0, y)
    rw [Int.zero_add]
  | v :: ws, d + 1, y, w, hn, h, h1, h2 => by
    have ih := seek_at ws d y w (fun z hz => hn z (List.mem_cons_of_mem _ hz)) h h1 h2
    have h3 := sum_nn (ws.take d) fun z hz => hn z (List.mem_cons_of_mem _ (List.mem_of_mem_take hz))
    rw [List.take_succ_cons, List.sum_cons]
    unfold seek
    rw [if_pos (by omega), show v + (ws.take d).sum + y - v = (ws.take d).sum + y by omega, ih]
/-! ### the order of a number -/
/-- what the walk has ahead of turn i: the order so far, the numbers left, the rank, the number -/
structure OSt where
  o : List Int
  lf : List Int
  r : Nat
  x : Int
def startOf (c : Bool) (r : Nat) : Nat := if c then r else 0
def letterAt (l : List Bool) (i : Nat) : Bool := (false :: l).getD i false
def oNext (l : List Bool) (i : Nat) (s : OSt) : OSt :=
  let st := startOf (letterAt l i) s.r
  let p := seek ((ahead (l.drop i)).drop st) s.x
  ⟨s.o ++ [s.lf.getD (st + p.1) 0], s.lf.eraseIdx (st + p.1), st + p.1, p.2⟩
def oRun (l : List Bool) (x : Int) : Nat → OSt
  | 0 => ⟨[], upto (l.length + 1), 0, x⟩
  | i + 1 => oNext l i (oRun l x i)
def orderOf (l : List Bool) (x : Int) : List Int := (oRun l x (l.length + 1)).o
/-- what the number stays under ahead of turn i -/
def bnd (l : List Bool) (i r : Nat) : Int := if i = 0 then (ahead l).sum else if i ≤ l.length then (partW (letterAt l i) r (ahead (l.drop i))).sum else 1
theorem letter_succ {l : List Bool} {i : Nat} (h : i < l.length) : letterAt l (i + 1) = l[i] ∧ l[i]? = some l[i] ∧ l.drop i = l[i] :: l.drop (i + 1) := by
  refine ⟨?_, List.getElem?_eq_getElem h, List.drop_eq_getElem_cons h⟩
  unfold letterAt
  rw [List.getD_eq_getElem?_getD, List.getElem?_cons_succ, List.getElem?_eq_getElem h]
  rfl
/-- behind a turn: what is under the ways at the rank is under the next bound -/
theorem bnd_next {l : List Bool} {i k : Nat} {w : Int} (hi : i ≤ l.length) (hw : (ahead (l.drop i))[k]? = some w) : bnd l (i + 1) k = w := by
  unfold bnd
  rw [if_neg (Nat.succ_ne_zero i)]
  by_cases h : i < l.length
  · obtain ⟨e1, _, e3⟩ := letter_succ h
    rw [if_pos (show i + 1 ≤ l.length from h), e1]
    rw [e3] at hw
    have hk : k ≤ (l.drop (i + 1)).length + 1 := by
      have := (List.getElem?_eq_some_iff.mp hw).1
      rw [ahead_len, List.length_cons] at this
      omega
    rw [ahead_at _ _ _ hk] at hw
    exact Option.some.inj hw
  · rw [if_neg (show ¬ i + 1 ≤ l.length from h)]
    have e : i = l.length := by omega
    subst e
    rw [List.drop_length, ahead_nil] at hw
    cases k with
    | zero => exact Option.some.inj hw
    | succ k => simp at hw
/-- the list from which the rank is sought, and its bound -/
theorem bnd_sum {l : List Bool} {i r : Nat} (hi : i ≤ l.length) (h0 : i = 0 → r = 0) : bnd l i r = if 0 < i ∧ letterAt l i = false then ((ahead (l.drop i)).take r).sum else ((ahead (l.drop i)).drop (startOf (letterAt l i) r)).sum := by
  unfold bnd
  by_cases hz : i = 0
  · subst hz
    rw [if_pos rfl, if_neg (fun h => Nat.lt_irrefl 0 h.1)]
    show (ahead l).sum = ((ahead (l.drop 0)).drop 0).sum
    rw [List.drop_zero, List.drop_zero]
  · rw [if_neg hz, if_pos hi]
    unfold partW startOf
    cases letterAt l i with
    | true => rw [if_pos rfl, if_neg (fun h => Bool.false_ne_true h.2.symm), if_pos rfl]
    | false => rw [if_neg Bool.false_ne_true, if_pos ⟨by omega, rfl⟩]
theorem take_le {ws : List Int} (h : ∀ v ∈ ws, 0 ≤ v) (r : Nat) : (ws.take r).sum ≤ ws.sum := by
  have e : ws.sum = (ws.take r).sum + (ws.drop r).sum := by rw [← List.sum_append, List.take_append_drop]
  have := sum_nn (ws.drop r) fun v hv => h v (List.mem_of_mem_drop hv)
  omega
structure OInv (l : List Bool) (i : Nat) (s : OSt) : Prop where
  d : Drawn l i s.r s.o s.lf
  z : i = 0 → s.r = 0
  nn : 0 ≤ s.x
  bd : s.x < bnd l i s.r
theorem oInv_start {l : List Bool} {x : Int} (h0 : 0 ≤ x) (h1 : x < RF.cnt l) : OInv l 0 (oRun l x 0) := ⟨drawn_start l, fun _ => rfl, h0, by
  show x < bnd l 0 0
  unfold bnd
  rw [if_pos rfl, ahead_sum]
  exact h1⟩
/-- what a turn does: the rank found, its number, the next state -/
structure OStep (l : List Bool) (i : Nat) (s : OSt) : Prop where
  k : (oNext l i s).r < s.lf.length
  ge : startOf (letterAt l i) s.r ≤ (oNext l i s).r
  w : ∃ w, (ahead (l.drop i))[(oNext l i s).r]? = some w ∧ 0 ≤ (oNext l i s).x ∧ (oNext l i s).x < w
  dir : 0 < i → (l[i - 1]? = some true → s.r ≤ (oNext l i s).r) ∧ (l[i - 1]? = some false → (oNext l i s).r < s.r)
theorem oStep {l : List Bool} {i : Nat} {s : OSt} (I : OInv l i s) (hi : i ≤ l.length) : OStep l i s := by
  have hW := ahead_nn (l.drop i)
  have hWl := ahead_len (l.drop i)
  have hll : s.lf.length = l.length + 1 - i := by
    have h1 := I.d.perm.length_eq
    rw [List.length_append, I.d.num] at h1
    unfold upto at h1
    rw [List.length_map, List.length_range] at h1
    omega
  have hb := I.bd
  rw [bnd_sum hi I.z] at hb
  have hD : ∀ v ∈ (ahead (l.drop i)).drop (startOf (letterAt l i) s.r), 0 ≤ v := fun v hv => hW v (List.mem_of_mem_drop hv)
  have hlt : s.x < ((ahead (l.drop i)).drop (startOf (letterAt l i) s.r)).sum := by
    split at hb
    · rename_i h
      have := take_le hW s.r
      unfold startOf
      rw [h.2, if_neg Bool.false_ne_true, List.drop_zero]
      omega
    · exact hb
  obtain ⟨w, hw, h1, h2⟩ := seek_in _ _ I.nn hlt
  have hk := (List.getElem?_eq_some_iff.mp hw).1
  rw [List.length_drop, hWl, List.length_drop] at hk
  refine ⟨?_, Nat.le_add_right _ _, ⟨w, ?_, h1, h2⟩, fun h0 => ⟨fun e => ?_, fun e => ?_⟩⟩
  · show startOf (letterAt l i) s.r + (seek ((ahead (l.drop i)).drop (startOf (letterAt l i) s.r)) s.x).1 < s.lf.length
    omega
  · rw [List.getElem?_drop] at hw
    exact hw
  · have el : letterAt l i = true := by
      have := (letter_succ (l := l) (i := i - 1) (by omega)).1
      rw [Nat.sub_add_cancel h0] at this
      rw [this]
      rw [List.getElem?_eq_getElem (by omega)] at e
      exact Option.some.inj e
    show s.r ≤ startOf (letterAt l i) s.r + _
    rw [el]
    exact Nat.le_add_right _ _
  · have el : letterAt l i = false := by
      have := (letter_succ (l := l) (i := i - 1) (by omega)).1
      rw [Nat.sub_add_cancel h0] at this
      rw [this]
      rw [List.getElem?_eq_getElem (by omega)] at e
      exact Option.some.inj e
    rw [if_pos ⟨h0, el⟩] at hb
    have := seek_take _ _ _ I.nn hb hW
    show startOf (letterAt l i) s.r + (seek ((ahead (l.drop i)).drop (startOf (letterAt l i) s.r)) s.x).1 < s.r
    rw [el]
    show 0 + (seek ((ahead (l.drop i)).drop 0) s.x).1 < s.r
    rw [List.drop_zero, Nat.zero_add]
    exact this
theorem oInv_next {l : List Bool} {i : Nat} {s : OSt} (I : OInv l i s) (hi : i ≤ l.length) : OInv l (i + 1) (oNext l i s) := by
  have S := oStep I hi
  obtain ⟨w, hw, h1, h2⟩ := S.w
  have hy : s.lf[(oNext l i s).r]? = some (s.lf.getD (oNext l i s).r 0) := by
    rw [List.getD_eq_getElem?_getD, List.getElem?_eq_getElem S.k]
    rfl
  refine ⟨drawn_step I.d hi hy S.dir, fun h => absurd h (Nat.succ_ne_zero i), h1, ?_⟩
  rw [bnd_next hi hw]
  exact h2
theorem oInv_all {l : List Bool} {x : Int} (h0 : 0 ≤ x) (h1 : x < RF.cnt l) : ∀ i, i ≤ l.length + 1 → OInv l i (oRun l x i)
  | 0, _ => oInv_start h0 h1
  | i + 1, h => oInv_next (oInv_all h0 h1 i (by omega)) (by omega)
/-- it is an order of the word -/
theorem drawn_end {l : List Bool} {at' : Nat} {fd lf : List Int} (D : Drawn l (l.length + 1) at' fd lf) : IsOrder l fd := by
  have hl : lf = [] := by
    have h := D.perm.length_eq
    rw [List.length_append, D.num] at h
    unfold upto at h
    rw [List.length_map, List.length_range] at h
    exact List.length_eq_zero_iff.mp (by omega)
  have h1 := D.perm
  rw [hl, List.append_nil] at h1
  have h2 := D.word
  rw [Nat.add_sub_cancel, List.take_of_length_le (Nat.le_refl _)] at h2
  exact ⟨h1, h2⟩
theorem order_is {l : List Bool} {x : Int} (h0 : 0 ≤ x) (h1 : x < RF.cnt l) : IsOrder l (orderOf l x) := drawn_end (oInv_all h0 h1 (l.length + 1) (Nat.le_refl _)).d
end K2
end
-- part MathN
section
set_option Elab.async false
set_option linter.all false
set_option maxRecDepth 100000
set_option maxHeartbeats 2000000
/-! The number of an order; that the one undoes the other. -/
namespace K2
open PySem PySem.Spec PyProof.Rows L2 RFI K1 ZG
structure NSt where
  lf : List Int
  r : Nat
  s : Int
def nNext (l : List Bool) (fs : List Int) (i : Nat) (t : NSt) : NSt :=
  let k := t.lf.idxOf (fs.getD i 0)
  ⟨t.lf.eraseIdx k, k, t.s + (((ahead (l.drop i)).drop (startOf (letterAt l i) t.r)).take (k - startOf (letterAt l i) t.r)).sum⟩
def nRun (l : List Bool) (fs : List Int) : Nat → NSt
  | 0 => ⟨upto (l.length + 1), 0, 0⟩
  | i + 1 => nNext l fs i (nRun l fs i)
def numberOf (l : List Bool) (fs : List Int) : Int := (nRun l fs (l.length + 1)).s
theorem idx_rise : ∀ (l : List Int) (k : Nat) (y : Int), l.Pairwise (· < ·) → l[k]? = some y → l.idxOf y = k
  | [], k, y, _, h => by simp at h
  | a :: l, 0, y, _, h => by
    have e : a = y := by simpa using h
    subst e
    simp [List.idxOf_cons]
  | a :: l, k + 1, y, hp, h => by
    obtain ⟨h1, h2⟩ := List.pairwise_cons.mp hp
    have hy : y ∈ l := List.mem_of_getElem? (i := k) (by simpa using h)
    have hne : a ≠ y := fun e => by
      have := h1 y hy
      omega
    have ih := idx_rise l k y h2 (by simpa using h)
    rw [List.idxOf_cons]
    have : (a == y) = false := by simpa using hne
    rw [this, ih]
    rfl
theorem upto_len (n : Nat) : (upto n).length = n := by unfold upto; rw [List.length_map, List.length_range]
theorem lf_len {l : List Bool} {i at' : Nat} {fd lf : List Int} (D : Drawn l i at' fd lf) : i + lf.length = l.length + 1 := by
  have h1 := D.perm.length_eq
  rw [List.length_append, D.num, upto_len] at h1
  exact h1
/-! ### of an order that a number gave -/
theorem o_len (l : List Bool) (x : Int) : ∀ i, (oRun l x i).o.length = i
  | 0 => rfl
  | i + 1 => by
    show ((oRun l x i).o ++ [_]).length = i + 1
    rw [List.length_append, o_len l x i]
    rfl
theorem o_pre (l : List Bool) (x : Int) (i : Nat) : ∀ j, i ≤ j → (oRun l x j).o.take i = (oRun l x i).o
  | 0, h => by
    have e : i = 0 := by omega
    subst e
    rfl
  | j + 1, h => by
    by_cases e : i = j + 1
    · subst e
      exact List.take_of_length_le (by rw [o_len]; exact Nat.le_refl _)
    · have ih := o_pre l x i j (by omega)
      show ((oRun l x j).o ++ [_]).take i = _
      rw [List.take_append_of_le_length (by rw [o_len]; omega), ih]
theorem o_at (l : List Bool) (x : Int) {i j : Nat} (h : i < j) : (oRun l x j).o[i]? = some ((oRun l x i).lf.getD (oRun l x (i + 1)).r 0) := by
  have e := o_pre l x (i + 1) j h
  have h1 : ((oRun l x j).o.take (i + 1))[i]? = (oRun l x j).o[i]? := List.getElem?_take_of_lt (Nat.lt_succ_self i)
  rw [← h1, e]
  show ((oRun l x i).o ++ [_])[i]? = _
  rw [List.getElem?_append_right (by rw [o_len]; exact Nat.le_refl _), o_len, Nat.sub_self]
  rfl
theorem n_of_o {l : List Bool} {x : Int} (h0 : 0 ≤ x) (h1 : x < RF.cnt l) : ∀ i, i ≤ l.length + 1 → nRun l (orderOf l x) i = ⟨(oRun l x i).lf, (oRun l x i).r, x - (oRun l x i).x⟩
  | 0, _ => by
    show NSt.mk _ 0 0 = NSt.mk _ 0 (x - x)
    rw [Int.sub_self]
    rfl
  | i + 1, h => by
    have ih := n_of_o h0 h1 i (by omega)
    have I := oInv_all h0 h1 i (by omega)
    have S := oStep I (by omega)
    show nNext l (orderOf l x) i (nRun l (orderOf l x) i) = _
    rw [ih]
    have ev : (orderOf l x).getD i 0 = (oRun l x i).lf.getD (oRun l x (i + 1)).r 0 := by
      rw [List.getD_eq_getElem?_getD]
      show ((oRun l x (l.length + 1)).o[i]?).getD 0 = _
      rw [o_at l x (by omega)]
      rfl
    have ek : (oRun l x i).lf.idxOf ((orderOf l x).getD i 0) = (oRun l x (i + 1)).r := by
      rw [ev]
      refine idx_rise _ _ _ I.d.rise ?_
      have hk : (oRun l x (i + 1)).r < (oRun l x i).lf.length := S.k
      rw [List.getD_eq_getElem?_getD, List.getElem?_eq_getElem hk]
      rfl
    unfold nNext
    simp only [ek]
    have e3 : (oRun l x (i + 1)).r - startOf (letterAt l i) (oRun l x i).r = (seek ((ahead (l.drop i)).drop (startOf (letterAt l i) (oRun l x i).r)) (oRun l x i).x).1 := by
      show startOf (letterAt l i) (oRun l x i).r + _ - _ = _
      omega
    have e4 : (oRun l x (i + 1)).x = (oRun l x i).x - (((ahead (l.drop i)).drop (startOf (letterAt l i) (oRun l x i).r)).take ((oRun l x (i + 1)).r - startOf (letterAt l i) (oRun l x i).r)).sum := by
      rw [e3]
      exact seek_sum _ _
    rw [e4]
    show NSt.mk ((oRun l x i).lf.eraseIdx (oRun l x (i + 1)).r) _ _ = NSt.mk ((oRun l x i).lf.eraseIdx (oRun l x (i + 1)).r) _ _
    congr 1
    omega
theorem number_order {l : List Bool} {x : Int} (h0 : 0 ≤ x) (h1 : x < RF.cnt l) : numberOf l (orderOf l x) = x := by
  have e := n_of_o h0 h1 (l.length + 1) (Nat.le_refl _)
  have I := oInv_all h0 h1 (l.length + 1) (Nat.le_refl _)
  unfold numberOf
  rw [e]
  have hb := I.bd
  unfold bnd at hb
  rw [if_neg (Nat.succ_ne_zero _), if_neg (by omega)] at hb
  have := I.nn
  show x - (oRun l x (l.length + 1)).x = x
  omega
/-! ### of any order of the word -/
theorem byOf_at : ∀ (fs : List Int) (i : Nat) (x y : Int), fs[i]? = some x → fs[i + 1]? = some y → (byOf fs)[i]? = some (decide (x < y))
  | [], i, x, y, h, _ => by simp at h
  | [a], i, x, y, _, h => by simp at h
  | a :: b :: r, 0, x, y, h1, h2 => by
    have e1 : a = x := by simpa using h1
    have e2 : b = y := by simpa using h2
    subst e1 e2
    rfl
  | a :: b :: r, i + 1, x, y, h1, h2 => byOf_at (b :: r) i x y (by simpa using h1) (by simpa using h2)
structure NStep (l : List Bool) (fs : List Int) (i : Nat) (t : NSt) : Prop where
  k : (nNext l fs i t).r < t.lf.length
  at_ : t.lf[(nNext l fs i t).r]? = some (fs.getD i 0)
  ge : startOf (letterAt l i) t.r ≤ (nNext l fs i t).r
  lt : 0 < i → letterAt l i = false → (nNext l fs i t).r < t.r
theorem upto_nodup (n : Nat) : (upto n).Nodup := by
  unfold upto
  exact List.pairwise_map.mpr (List.pairwise_lt_range.imp fun {a b} h e => absurd (Int.ofNat.inj e) (Nat.ne_of_lt h))
theorem nStep {l : List Bool} {fs : List Int} {i : Nat} {t : NSt} (ho : IsOrder l fs) (D : Drawn l i t.r (fs.take i) t.lf) (hi : i ≤ l.length) : NStep l fs i t ∧ Drawn l (i + 1) (nNext l fs i t).r (fs.take (i + 1)) (nNext l fs i t).lf := by
  have hl : fs.length = l.length + 1 := by rw [ho.1.length_eq, upto_len]
  have hif : i < fs.length := by omega
  have hf : fs[i]? = some fs[i] := List.getElem?_eq_getElem hif
  have hg : fs.getD i 0 = fs[i] := by rw [List.getD_eq_getElem?_getD, hf]; rfl
  have hp : (fs.take i ++ t.lf).Perm fs := D.perm.trans ho.1.symm
  have hm : fs[i] ∈ t.lf := by
    have h1 : fs[i] ∈ fs.take i ++ t.lf := hp.mem_iff.mpr (List.getElem_mem hif)
    rcases List.mem_append.mp h1 with h | h
    · exfalso
      obtain ⟨j, hj, e⟩ := List.getElem_of_mem h
      rw [List.getElem_take] at e
      have nd : fs.Nodup := ho.1.nodup_iff.mpr (upto_nodup _)
      rw [List.length_take] at hj
      exact List.pairwise_iff_getElem.mp nd j i (by omega) hif (by omega) e
    · exact h
  obtain ⟨k, hk, ek⟩ := List.getElem_of_mem hm
  have hat : t.lf[k]? = some fs[i] := by rw [List.getElem?_eq_getElem hk, ek]
  have er : (nNext l fs i t).r = k := by
    show t.lf.idxOf (fs.getD i 0) = k
    rw [hg]
    exact idx_rise _ _ _ D.rise hat
  have elf : (nNext l fs i t).lf = t.lf.eraseIdx k := by
    show t.lf.eraseIdx (t.lf.idxOf (fs.getD i 0)) = _
    rw [hg, idx_rise _ _ _ D.rise hat]
  have hdir : 0 < i → (l[i - 1]? = some true → t.r ≤ k) ∧ (l[i - 1]? = some false → k < t.r) := fun h0 => by
    obtain ⟨x, hx, hlast⟩ := D.last h0
    have hx' : fs[i - 1]? = some x := by
      rw [List.getLast?_eq_getElem?, List.length_take, show min i fs.length - 1 = i - 1 by omega, List.getElem?_take_of_lt (by omega)] at hx
      exact hx
    have hb := byOf_at fs (i - 1) x fs[i] hx' (by rw [Nat.sub_add_cancel h0]; exact hf)
    rw [ho.2] at hb
    have hky := hlast k fs[i] hat
    refine ⟨fun e => ?_, fun e => ?_⟩
    · rw [e] at hb
      have := of_decide_eq_true (Option.some.inj hb).symm
      refine Nat.le_of_not_lt fun h => ?_
      have := hky.1 h
      omega
    · rw [e] at hb
      have := of_decide_eq_false (Option.some.inj hb).symm
      refine Nat.lt_of_not_le fun h => ?_
      exact this (hky.2 h)
  have hlet : 0 < i → letterAt l i = l.getD (i - 1) false ∧ l[i - 1]? = some (letterAt l i) := fun h0 => by
    obtain ⟨e1, e2, _⟩ := letter_succ (l := l) (i := i - 1) (by omega)
    rw [Nat.sub_add_cancel h0] at e1
    exact ⟨by rw [e1, List.getD_eq_getElem?_getD, e2]; rfl, by rw [e1]; exact e2⟩
  refine ⟨⟨by rw [er]; exact hk, by rw [er, hg]; exact hat, ?_, fun h0 hc => ?_⟩, ?_⟩
  · rw [er]
    unfold startOf
    cases hc : letterAt l i with
    | false => exact Nat.zero_le _
    | true =>
      rcases Nat.eq_zero_or_pos i with h0 | h0
      · subst h0
        cases hc
      · rw [if_pos rfl]
        have := (hlet h0).2
        rw [hc] at this
        exact (hdir h0).1 this
  · rw [er]
    have := (hlet h0).2
    rw [hc] at this
    exact (hdir h0).2 this
  · rw [er, elf]
    have e : fs.take (i + 1) = fs.take i ++ [fs[i]] := by rw [List.take_add_one, hf]; rfl
    rw [e]
    exact drawn_step D hi hat hdir
theorem nInv {l : List Bool} {fs : List Int} (ho : IsOrder l fs) : ∀ i, i ≤ l.length + 1 → Drawn l i (nRun l fs i).r (fs.take i) (nRun l fs i).lf
  | 0, _ => drawn_start l
  | i + 1, h => (nStep ho (nInv ho i (by omega)) (by omega)).2
/-- what a turn adds, and the ways at its rank -/
theorem n_add {l : List Bool} {fs : List Int} (ho : IsOrder l fs) {i : Nat} (hi : i ≤ l.length) : ∃ w : Int, (ahead (l.drop i))[(nRun l fs (i + 1)).r]? = some w ∧
    0 ≤ (nRun l fs (i + 1)).s - (nRun l fs i).s ∧ (nRun l fs (i + 1)).s - (nRun l fs i).s + w ≤ bnd l i (nRun l fs i).r := by
  obtain ⟨S, _⟩ := nStep ho (nInv ho i (by omega)) hi
  have hW := ahead_nn (l.drop i)
  have hWl := ahead_len (l.drop i)
  have hll := lf_len (nInv ho i (by omega))
  have hk : (nRun l fs (i + 1)).r < (ahead (l.drop i)).length := by
    have h1 := S.k
    rw [hWl, List.length_drop]
    show (nNext l fs i (nRun l fs i)).r < _
    omega
  have hge : startOf (letterAt l i) (nRun l fs i).r ≤ (nRun l fs (i + 1)).r := S.ge
  have es : (nRun l fs (i + 1)).s - (nRun l fs i).s = (((ahead (l.drop i)).drop (startOf (letterAt l i) (nRun l fs i).r)).take ((nRun l fs (i + 1)).r - startOf (letterAt l i) (nRun l fs i).r)).sum := by
    show (nRun l fs i).s + _ - (nRun l fs i).s = _
    rw [Int.add_comm, Int.add_sub_cancel]
    rfl
  have hlt : 0 < i → letterAt l i = false → (nRun l fs (i + 1)).r < (nRun l fs i).r := S.lt
  have hz : i = 0 → (nRun l fs i).r = 0 := fun e => by rw [e]; rfl
  rw [es, bnd_sum hi hz]
  generalize (nRun l fs (i + 1)).r = k at hk hge hlt ⊢
  generalize (nRun l fs i).r = r at hge hlt ⊢
  generalize ahead (l.drop i) = W at hW hk ⊢
  have hw : W[k]? = some W[k] := List.getElem?_eq_getElem hk
  generalize hst : startOf (letterAt l i) r = st at hge ⊢
  have ed : (W.drop st)[k - st]? = some W[k] := by rw [List.getElem?_drop, show st + (k - st) = k by omega, hw]
  have et : ((W.drop st).take (k - st)).sum + W[k] = ((W.drop st).take (k - st + 1)).sum := by
    rw [List.take_add_one, ed, List.sum_append]
    show _ = _ + (W[k] + 0)
    omega
  refine ⟨_, hw, sum_nn _ fun v hv => hW v (List.mem_of_mem_drop (List.mem_of_mem_take hv)), ?_⟩
  rw [et]
  split
  · rename_i h
    have h3 := hlt h.1 h.2
    have e0 : st = 0 := by
      rw [← hst, h.2]
      rfl
    rw [e0, List.drop_zero, Nat.sub_zero]
    have e5 : (W.take r).take (k + 1) = W.take (k + 1) := by rw [List.take_take, Nat.min_eq_left (by omega)]
    rw [← e5]
    exact take_le (fun v hv => hW v (List.mem_of_mem_take hv)) (k + 1)
  · exact take_le (fun v hv => hW v (List.mem_of_mem_drop hv)) _
theorem n_left {l : List Bool} {fs : List Int} (ho : IsOrder l fs) : ∀ (j i : Nat), i + j = l.length + 1 → 0 ≤ numberOf l fs - (nRun l fs i).s ∧ numberOf l fs - (nRun l fs i).s < bnd l i (nRun l fs i).r
  | 0, i, h => by
    have e : i = l.length + 1 := h
    subst e
    unfold numberOf bnd
    rw [if_neg (Nat.succ_ne_zero _), if_neg (by omega)]
    omega
  | j + 1, i, h => by
    obtain ⟨h1, h2⟩ := n_left ho j (i + 1) (by omega)
    obtain ⟨w, hw, h3, h4⟩ := n_add ho (i := i) (by omega)
    rw [bnd_next (by omega) hw] at h2
    omega
theorem number_in {l : List Bool} {fs : List Int} (ho : IsOrder l fs) : 0 ≤ numberOf l fs ∧ numberOf l fs < RF.cnt l := by
  obtain ⟨h1, h2⟩ := n_left ho (l.length + 1) 0 (by omega)
  have e : (nRun l fs 0).s = 0 := rfl
  rw [e, Int.sub_zero] at h1 h2
  refine ⟨h1, ?_⟩
  unfold bnd at h2
  rw [if_pos rfl, ahead_sum] at h2
  exact h2
theorem o_of_n {l : List Bool} {fs : List Int} (ho : IsOrder l fs) : ∀ i, i ≤ l.length + 1 → oRun l (numberOf l fs) i = ⟨fs.take i, (nRun l fs i).lf, (nRun l fs i).r, numberOf l fs - (nRun l fs i).s⟩
  | 0, _ => by
    show OSt.mk [] _ 0 _ = OSt.mk [] _ 0 (numberOf l fs - 0)
    rw [Int.sub_zero]
    rfl
  | i + 1, h => by
    have ih := o_of_n ho i (by omega)
    obtain ⟨S, _⟩ := nStep ho (nInv ho i (by omega)) (by omega)
    obtain ⟨w, hw, h3, _⟩ := n_add ho (i := i) (by omega)
    obtain ⟨h1, h2⟩ := n_left ho (l.length + 1 - (i + 1)) (i + 1) (by omega)
    rw [bnd_next (by omega) hw] at h2
    have hge : startOf (letterAt l i) (nRun l fs i).r ≤ (nRun l fs (i + 1)).r := S.ge
    have hat : (nRun l fs i).lf[(nRun l fs (i + 1)).r]? = some (fs.getD i 0) := S.at_
    have hsk := seek_at ((ahead (l.drop i)).drop (startOf (letterAt l i) (nRun l fs i).r)) ((nRun l fs (i + 1)).r - startOf (letterAt l i) (nRun l fs i).r) (numberOf l fs - (nRun l fs (i + 1)).s) w (fun v hv => ahead_nn _ v (List.mem_of_mem_drop hv))
      (by rw [List.getElem?_drop, show startOf (letterAt l i) (nRun l fs i).r + ((nRun l fs (i + 1)).r - startOf (letterAt l i) (nRun l fs i).r) = (nRun l fs (i + 1)).r by omega]; exact hw) h1 h2
    have ex : (((ahead (l.drop i)).drop (startOf (letterAt l i) (nRun l fs i).r)).take ((nRun l fs (i + 1)).r - startOf (letterAt l i) (nRun l fs i).r)).sum + (numberOf l fs - (nRun l fs (i + 1)).s) = numberOf l fs - (nRun l fs i).s := by
      have : (nRun l fs (i + 1)).s = (nRun l fs i).s + (((ahead (l.drop i)).drop (startOf (letterAt l i) (nRun l fs i).r)).take ((nRun l fs (i + 1)).r - startOf (letterAt l i) (nRun l fs i).r)).sum := rfl
      omega
    rw [ex] at hsk
    show oNext l i (oRun l (numberOf l fs) i) = _
    rw [ih]
    unfold oNext
    simp only [hsk]
    have ek : startOf (letterAt l i) (nRun l fs i).r + ((nRun l fs (i + 1)).r - startOf (letterAt l i) (nRun l fs i).r) = (nRun l fs (i + 1)).r := by omega
    rw [ek, List.getD_eq_getElem?_getD, hat]
    have hl : fs.length = l.length + 1 := by rw [ho.1.length_eq, upto_len]
    have hf : fs[i]? = some (fs.getD i 0) := by rw [List.getD_eq_getElem?_getD, List.getElem?_eq_getElem (by omega)]; rfl
    have e : fs.take (i + 1) = fs.take i ++ [fs.getD i 0] := by rw [List.take_add_one, hf]; rfl
    rw [e]
    rfl
theorem order_number {l : List Bool} {fs : List Int} (ho : IsOrder l fs) : orderOf l (numberOf l fs) = fs := by
  have e := o_of_n ho (l.length + 1) (Nat.le_refl _)
  unfold orderOf
  rw [e]
  exact List.take_of_length_le (by rw [ho.1.length_eq, upto_len]; exact Nat.le_refl _)
end K2
end
-- part RCl
section
set_option Elab.async false
set_option linter.all false
set_option maxRecDepth 100000
set_option maxHeartbeats 2000000
/-! Lists whose items are told apart from pairwise's mark, by their objects: made by slices, list(..), +, turned round; numbers that are made anew. -/
namespace RFI
open PySem PySem.Spec PyProof.Rows L2
section
variable {X : Cx} {pins : List (Addr × Obj)} {σ : L2.St} {H : Hp} {s : Shared}
/-- a new list of xs, known by its object -/
def NewC (X : Cx) (xs : List V) (H : Hp) (Q : VK) : Prop := ∀ p o, H p = none → NF X p → ClO o → Q (.ref p) (upd H p (.frz o (.lst xs)))
theorem newC_at {h' : Heap} {t' : Nat} {a : Addr} {its : List Value} {n : Nat} {xs : List V} {Q : VK} (I : Inv X pins σ H s) (k : ∀ b u, s.heap.get? b = some u → h'.get? b = some u) (hp : s.heap.objs.size ≤ a) (z : xs.length ≤ sizeLine) (r : Vals xs its) (c : ∀ v ∈ its, Cl v)
    (e : h'.get? a = some { cls := .type "list", data := .seq its.toArray n }) (q : NewC X xs H Q) : EP X pins σ Q (.ref a) { s with heap := h', toks := t' } := by
  have hf := I.hok.fresh hp
  have new : ObjOk X.prog X.w (upd H a (.frz { cls := .type "list", data := .seq its.toArray n } (.lst xs))) h' a (.frz { cls := .type "list", data := .seq its.toArray n } (.lst xs)) := ⟨e, z, its, n, r, e⟩
  exact ⟨.ref a, _, I.laid (t' := t') k hp new, rfl, q a _ hf (nf_of I hf) ⟨its.toArray, n, rfl, by simpa using c⟩⟩
/-- xs[lo:hi] -/
def rSlC (X : Cx) : V → Option Int → Option Int → Hp → VK → Prop := fun x lo hi H Q => ∃ a xs, x = .ref a ∧ SqL X.K H a xs ∧ ClAt X.K H a xs ∧ NewC X (cutV xs lo hi) H Q
theorem sl_listC : SlR X (rSlC X) := by
  intro pins s σ H x v vl vu lo hi sl Q I rx hs pl pu h
  obtain ⟨a, xs, rfl, hx, hc, q⟩ := h
  cases rx
  obtain ⟨its, r, ht, cls⟩ := clean_list I hx hc
  obtain ⟨_, _, _, hz⟩ := I.list hx
  have hlen := r.length
  refine ⟨"list", _, slot_list_getitem.lookup, ht.isList.typeIs, ?_⟩
  refine wpAny_getItem_list_slice ht.isList hs pl pu .none (by simp) ?_ (by rw [List.size_toArray] <;> omega)
  rw [slicePick_cut, ← hlen]
  exact newC_at (t' := s.toks) I (fun b ob e => Heap.get?_push_of_some _ e) (Nat.le_refl _) (Nat.le_trans (cutV_length xs lo hi) hz) ((r.drop _).take _) (fun v hv => cls v (List.mem_of_mem_drop (List.mem_of_mem_take hv))) (Heap.get?_push_size _ rfl) q
/-- the same within a comprehension, where nothing is asked of the frame -/
def rSlC0 (K : PySem.W.Frag) : V → Option Int → Option Int → Hp → VK → Prop := fun x lo hi H Q => ∃ a xs, x = .ref a ∧ SqL K H a xs ∧ ClAt K H a xs ∧ ∀ p o, H p = none → ClO o → Q (.ref p) (upd H p (.frz o (.lst (cutV xs lo hi))))
theorem sl_listC0 : SlR X (rSlC0 X.K) := fun pins s σ H x v vl vu lo hi sl Q I rx hs pl pu ⟨a, xs, e, h1, h2, q⟩ => sl_listC pins s σ H x v vl vu lo hi sl Q I rx hs pl pu ⟨a, xs, e, h1, h2, fun p o n _ c => q p o n c⟩
/-- list(xs) -/
def rListC (X : Cx) : List V → Hp → VK → Prop := fun xs H Q => ∃ p ys, xs = [.ref p] ∧ SqL X.K H p ys ∧ ClAt X.K H p ys ∧ NewC X ys H Q
theorem call_listC : CallR X (.type "list") (rListC X) := by
  intro pins s σ H xs us Q I r h
  obtain ⟨p, ys, rfl, hq, hc, q⟩ := h
  obtain ⟨u, rfl, rx⟩ := vals1 r
  cases rx
  obtain ⟨its, r', pl, cls⟩ := clean_list I hq hc
  obtain ⟨_, _, _, hz⟩ := I.list hq
  have hlen := r'.length
  obtain ⟨o, ho, hcl, n, hd⟩ := pl.isList
  exact call_list_seq p (.inl rfl) ho hcl hd (fun h' c' kp e => newC_at (t' := s.toks) I kp (Nat.le_refl _) hz r' cls e q) (by simp only [List.size_toArray] <;> omega)
/-- a list that is tracked, by its items -/
theorem clean_rd {l : Addr} {xs : List V} (I : Inv X pins σ H s) (hl : Rd H l (.lst xs)) (hc : ClAt X.K H l xs) : xs.length ≤ sizeLine ∧ ∃ (its : List Value) (n : Nat), Vals xs its ∧ s.heap.get? l = some { cls := .type "list", data := .seq its.toArray n } ∧ ∀ v ∈ its, Cl v := by
  have hok : ∃ (its : List Value) (n : Nat), Vals xs its ∧ s.heap.get? l = some { cls := .type "list", data := .seq its.toArray n } ∧ xs.length ≤ sizeLine := by
    rcases hl with h | ⟨o, h⟩
    · obtain ⟨z, its, n, r, e⟩ := I.hok l _ h
      exact ⟨its, n, r, e, z⟩
    · obtain ⟨_, z, its, n, r, e⟩ := I.hok l _ h
      exact ⟨its, n, r, e, z⟩
  obtain ⟨its, n, r, e, z⟩ := hok
  obtain ⟨its2, r2, pl, cls⟩ := clean_list I (.inl hl) hc
  obtain ⟨o2, n2, e2, _, _, d2⟩ := pl
  rw [e] at e2
  cases e2
  injection d2 with d3 _
  have d4 : its = its2 := by simpa using d3
  subst d4
  exact ⟨z, its, n, r, e, cls⟩
/-- xs + ys -/
def rCatC (X : Cx) : R2 := fun x y H Q => ∃ l b xs zs, x = .ref l ∧ y = .ref b ∧ Rd H l (.lst xs) ∧ ClAt X.K H l xs ∧ Rd H b (.lst zs) ∧ ClAt X.K H b zs ∧ xs.length + zs.length ≤ sizeLine ∧ NewC X (xs ++ zs) H Q
theorem op_catC : OpR X (binaryOp .Add) (rCatC X) := by
  intro pins s σ H x y v u Q I rx ry h
  obtain ⟨l, b, xs, zs, rfl, rfl, hH, hcl, hB, hcb, hz, q⟩ := h
  cases rx
  cases ry
  obtain ⟨z, its, n, r, e, c1⟩ := clean_rd I hH hcl
  obtain ⟨z2, its2, n2, r2, e2, c2⟩ := clean_rd I hB hcb
  have hl := r.length
  have hl2 := r2.length
  refine PySem.P.add_list e e2 ?_ (by rw [List.size_toArray, List.size_toArray]; omega)
  have ea : its.toArray ++ its2.toArray = (its ++ its2).toArray := by simp
  rw [ea]
  exact newC_at (n := 0) (t' := s.toks) I (fun b ob e => Heap.get?_push_of_some _ e) (Nat.le_refl _) (by rw [List.length_append]; omega) (r.append r2) (fun v hv => (List.mem_append.mp hv).elim (c1 v) (c2 v)) (Heap.get?_push_size _ rfl) q
/-- xs[::-1] -/
def tRevC (X : Cx) (te : TE) : TE := fun σ H Q => te σ H fun x H1 => ∃ a xs, x = .ref a ∧ SqL X.K H1 a xs ∧ ClAt X.K H1 a xs ∧ NewC X xs.reverse H1 Q
theorem pe_revC {e : Expr} {te : TE} {k : Nat} {p1 p2 p3 pos : Pos} (he : PE X e te) : PE X (.Subscript e (.Slice none none (some (.UnaryOp .USub (.Constant (.int 1) k p1) p2)) p3) pos) (tRevC X te) := by
  refine ⟨fun pins s σ H Q I h => ?_⟩
  refine Subscript_ (thn (he.run pins s σ H _ I h) fun v s1 ⟨x, H1, I1, r1, q1⟩ => ?_)
  obtain ⟨a, xs, ex, hx, hcl, q⟩ := q1
  subst ex
  cases r1
  have hst : PO X (some (.UnaryOp .USub (.Constant (.int 1) k p1) p2)) (tPart (tUn (rU fun i => .int (-i)) (tC (.int 1)))) := po_some (pe_un un_neg pe_int)
  refine wpAny_Slice (thn (po_none.run pins s1 σ H1 (fun o H2 => o = none ∧ H2 = H1) I1 ⟨rfl, rfl⟩) fun vl s2 ⟨l, H2, I2, pl, el, e2⟩ => ?_)
  subst el e2
  refine thn (po_none.run pins s2 σ H2 (fun o H3 => o = none ∧ H3 = H2) I2 ⟨rfl, rfl⟩) fun vu s3 ⟨u, H3, I3, pu, eu, e3⟩ => ?_
  subst eu e3
  refine thn (hst.run pins s3 σ H3 (fun o H4 => o = some (-1) ∧ H4 = H3) I3 ⟨1, rfl, -1, rfl, rfl, rfl⟩) fun vs s4 ⟨o, H4, I4, ps, eo, e4⟩ => ?_
  subst eo e4
  have I5 : Inv X pins σ H4 { s4 with heap := s4.heap.push { cls := .type "slice", data := .fields #[vl, vu, vs] } } := I4.kept (t' := s4.toks) fun b ob q => Heap.get?_push_of_some _ q
  obtain ⟨its, r, ht, cls⟩ := clean_list I5 hx hcl
  obtain ⟨_, _, _, hz⟩ := I5.list hx
  have hlen := r.length
  show wpAny (model X.prog X.w) X.A (subscriptTail e (.Slice none none (some (.UnaryOp .USub (.Constant (.int 1) k p1) p2)) p3) (.ref a) (.ref s4.heap.objs.size)) (EP X pins σ Q) X.xe { s4 with heap := s4.heap.push { cls := .type "slice", data := .fields #[vl, vu, vs] } }
  refine tail_any (ops := [.ref a, .ref s4.heap.objs.size]) ht.isList.typeIs (PySem.slot_list_getitem.lookup) ?_ (by with_unfolding_all rfl)
  refine wpAny_getItem_list_slice ht.isList (Heap.IsSliceOf.new _ vl vu vs) pl pu ps (by decide) ?_ (by rw [List.size_toArray]; omega)
  rw [PySem.W.krv_pick]
  exact newC_at (t' := s4.toks) I5 (fun b ob q => Heap.get?_push_of_some _ q) (Nat.le_refl _) (by rw [List.length_reverse]; exact hz) r.reverse (fun v hv => cls v (List.mem_reverse.mp hv)) (Heap.get?_push_size _ rfl) q
/-- from a list known by its object to one that may change, its items told -/
theorem opened {l : Addr} {xs : List V} {o : Obj} (I : Inv X pins σ H s) (hH : H l = some (.frz o (.lst xs))) (co : ClO o) (nf : NF X l) :
    ∃ (its : List Value) (n : Nat), xs.length ≤ sizeLine ∧ Vals xs its ∧ s.heap.get? l = some { cls := .type "list", data := .seq its.toArray n } ∧ (∀ v ∈ its, Cl v) ∧ Inv X pins σ (upd H l (.ext (clL l xs))) s := by
  obtain ⟨z, its, n, r, e, cls⟩ := clean_rd I (.inr ⟨o, hH⟩) (.inl ⟨o, .inl hH, co⟩)
  have I1 : Inv X pins σ (upd H l (.lst xs)) s := I.unlock hH nf
  have I2 : Inv X pins σ (upd (upd H l (.lst xs)) l (.ext (clL l xs))) s :=
    I1.write (x := l) (e := l) (t' := s.toks) (h' := s.heap) (by rw [upd_same]; trivial) (.inl rfl) (fun b v _ q => q) ⟨_, e⟩ (clL_ok ⟨z, its, n, r, e, cls⟩)
  rw [upd_upd] at I2
  exact ⟨its, n, z, r, e, cls, I2⟩
/-- and back -/
theorem closed {l : Addr} {xs : List V} {o : HO} (I : Inv X pins σ (upd H l o) s) (ho : o = .ext (clL l xs)) : ∃ od, ClO od ∧ Inv X pins σ (upd H l (.frz od (.lst xs))) s := by
  subst ho
  obtain ⟨od, c, I2⟩ := settle I upd_same
  rw [upd_upd] at I2
  exact ⟨od, c, I2⟩
theorem Inv.extset {l : Addr} {xs ys : List V} {its its' : List Value} {n : Nat} {f : Array Value → Array Value} {t' : Nat} (I : Inv X pins σ H s) (hH : H l = some (.ext (clL l xs)))
    (e : s.heap.get? l = some { cls := .type "list", data := .seq its.toArray n }) (hf : f its.toArray = its'.toArray) (hv : Vals ys its') (hz : ys.length ≤ sizeLine) (hc : ∀ v ∈ its', Cl v) :
    Inv X pins σ (upd H l (.ext (clL l ys))) { s with heap := s.heap.update l (Obj.mapSeq f), toks := t' } := by
  have q := PySem.IsL.update e f
  rw [hf] at q
  exact I.write (x := l) (e := l) (by rw [hH]; exact trivial) (.inl rfl) (fun b' u hb hu => (Heap.get?_update_other s.heap (Obj.mapSeq f) (Ne.symm hb)).trans hu) ⟨_, q⟩ (clL_ok ⟨hz, its', _, hv, q, hc⟩)
/-- .reverse() -/
def rReverseC (X : Cx) : V → List V → Hp → VK → Prop := fun x vs H Q => ∃ l xs o, x = .ref l ∧ vs = [] ∧ H l = some (.frz o (.lst xs)) ∧ ClO o ∧ NF X l ∧ ∀ o', ClO o' → Q .non (upd H l (.frz o' (.lst xs.reverse)))
theorem mt_reverseC : MtR X "list.reverse" (rReverseC X) := by
  intro pins s σ H x vs v us Q I rx rv h
  obtain ⟨l, xs, o, rfl, rfl, hH, co, nf, q⟩ := h
  cases rx
  have hus := rv.zero
  subst hus
  obtain ⟨its, n, z, r, e, cls, I2⟩ := opened I hH co nf
  have hl := r.length
  refine call_meets F.slot_list_reverse ⟨_, e, rfl⟩ F.entry_list_reverse (F.args_list_reverse_1 _) (AutoSeq1.list_reverse_list_0 l its.toArray n (by rw [List.size_toArray]; omega)) ⟨e, ?_⟩
  have I3 := Inv.extset (t' := s.toks) (its' := its.reverse) (ys := xs.reverse) I2 upd_same e (f := fun a => a.reverse) (by simp) r.reverse (by rw [List.length_reverse]; exact z) (fun v hv => cls v (List.mem_reverse.mp hv))
  rw [upd_upd] at I3
  obtain ⟨od, cod, I4⟩ := closed I3 rfl
  exact ⟨.non, _, I4, rfl, q od cod⟩
/-! ### numbers that are made anew -/
/-- an expression behind which a token is out -/
structure PEg (X : Cx) (e : Expr) (t : TE) : Prop where
  run : ∀ (pins : List (Addr × Obj)) (s : Shared) (σ : L2.St) (H : Hp) (Q : VK), Inv X pins σ H s → t σ H Q → wpAny (model X.prog X.w) X.A (eval e X.env) (fun u s' => 1 ≤ s'.toks ∧ EP X pins σ Q u s') X.xe s
theorem PEg.pe {e : Expr} {t : TE} (h : PEg X e t) : PE X e t := ⟨fun pins s σ H Q I q => thn (h.run pins s σ H Q I q) fun _ _ x => x.2⟩
theorem PEc.pe {e : Expr} {t : TE} (h : PEc X e t) : PE X e t := ⟨fun pins s σ H Q I q => thn (h.run pins s σ H Q I q) fun _ _ x => x.2⟩
theorem peg_int {i : Int} {j : Nat} {pos : Pos} : PEg X (.Constant (.int i) j pos) (tC (.int i)) := ⟨fun _ s _ H _ I h => wpAny_Constant_int ⟨Nat.succ_le_succ (Nat.zero_le _), .int i, H, I.tok _, ⟨_, rfl⟩, h⟩⟩
/-- an operation that makes its number: while a token is out it is a clean one, and one is out behind it -/
def OpC (X : Cx) (f : Value → Value → Sem Value) (r : R2) : Prop :=
  ∀ (pins : List (Addr × Obj)) (s : Shared) (σ : L2.St) (H : Hp) (x y : V) (v u : Value) (Q : VK), Inv X pins σ H s → RelV x v → RelV y u → r x y H Q →
    wpAny (model X.prog X.w) X.A (f v u) (fun z s' => (1 ≤ s.toks → Cl z) ∧ 1 ≤ s'.toks ∧ EP X pins σ Q z s') X.xe s
theorem cl_tok1 {i : Int} {t : Nat} (h : 1 ≤ t) : Cl (.int i t) := cl_of fun z => by
  injection z with _ z2
  have z3 : t = 0 := z2
  omega
theorem opcI {f : Value → Value → Sem Value} {C : Int → Int → Prop} {g : Int → Int → Int}
    (rule : ∀ (i j : Int) (t u : Tok) (s : Shared) (Q : Value → Shared → Prop) (E : Value → Shared → Prop), C i j → Q (.int (g i j) s.toks) { s with toks := s.toks + 1 } → wpAny (model X.prog X.w) X.A (f (.int i t) (.int j u)) Q E s) :
    OpC X f (rI C fun i j => .int (g i j)) := by
  intro pins s σ H x y v u Q I rx ry h
  obtain ⟨i, j, rfl, rfl, hc, q⟩ := h
  obtain ⟨t, rfl⟩ := rx
  obtain ⟨t', rfl⟩ := ry
  exact rule i j t t' s _ _ hc ⟨fun h1 => cl_tok1 h1, Nat.succ_le_succ (Nat.zero_le _), .int (g i j), H, I.tok _, ⟨_, rfl⟩, q⟩
theorem opcI0 {f : Value → Value → Sem Value} {g : Int → Int → Int}
    (rule : ∀ (i j : Int) (t u : Tok) (s : Shared) (Q : Value → Shared → Prop) (E : Value → Shared → Prop), Q (.int (g i j) s.toks) { s with toks := s.toks + 1 } → wpAny (model X.prog X.w) X.A (f (.int i t) (.int j u)) Q E s) :
    OpC X f (rI0 fun i j => .int (g i j)) := by
  intro pins s σ H x y v u Q I rx ry h
  obtain ⟨i, j, rfl, rfl, q⟩ := h
  obtain ⟨t, rfl⟩ := rx
  obtain ⟨t', rfl⟩ := ry
  exact rule i j t t' s _ _ ⟨fun h1 => cl_tok1 h1, Nat.succ_le_succ (Nat.zero_le _), .int (g i j), H, I.tok _, ⟨_, rfl⟩, q⟩
theorem opc_add : OpC X (binaryOp .Add) (rI0 fun i j => .int (i + j)) := opcI0 fun _ _ _ _ _ _ _ q => add_int q
theorem opc_sub : OpC X (binaryOp .Sub) (rI0 fun i j => .int (i - j)) := opcI0 fun _ _ _ _ _ _ _ q => sub_int q
theorem opc_mul : OpC X (binaryOp .Mult) (rI CMul fun i j => .int (i * j)) := opcI fun _ _ _ _ _ _ _ hc q => mul_int q hc.ok
theorem opc_fdiv : OpC X (binaryOp .FloorDiv) (rI CDiv fun i j => .int (i / j)) := opcI fun i j _ _ _ _ _ hc q => by
  have h1 : (0 : Int) < j := hc.1
  have h2 : j < 1073741824 := hc.2
  exact floordiv_int (by omega) (by rw [Int.fdiv_eq_ediv_of_nonneg i (by omega)]; exact q) (.inl (PyProof.noPylong_small (by omega)))
theorem opc_mod : OpC X (binaryOp .Mod) (rI (fun _ j => 0 < j) fun i j => .int (i % j)) := opcI fun i j _ _ _ _ _ hc q => by
  have h1 : (0 : Int) < j := hc
  exact mod_int' (by omega) (by rw [Int.fmod_eq_emod_of_nonneg i (by omega)]; exact q)
section
variable {a b : Expr} {ta tb : TE} {pos : Pos} {op : Operator} {r : R2}
/-- behind an operation a token is out -/
theorem peg_op (ho : OpC X (binaryOp op) r) (ha : PE X a ta) (hb : PE X b tb) : PEg X (.BinOp a op b pos) (tOp r ta tb) := by
  refine ⟨fun pins s σ H Q I h => ?_⟩
  exact wpAny_BinOp (binT ha hb I h fun v u s2 x y H2 I2 rx ry q => thn (ho pins s2 σ H2 x y v u Q I2 rx ry q) fun _ _ z => z.2)
/-- what is made while a token is out (of the left side's, or of the right one's) -/
theorem pec_opL (ho : OpC X (binaryOp op) r) (ha : PEg X a ta) (hb : PE X b tb) : PEc X (.BinOp a op b pos) (tOp r ta tb) := by
  refine ⟨fun pins s σ H Q I h => wpAny_BinOp ?_⟩
  refine thn (ha.run pins s σ H _ I h) fun v s1 ⟨t1, x, H1, I1, r1, q1⟩ => ?_
  refine thn (PySem.wpAny_with_toks (n := 1) t1 (wpAny_mono (hb.run pins s1 σ H1 _ I1 q1) (fun u s2 z => (show 1 ≤ s2.toks → (1 ≤ s2.toks ∧ EP X pins σ _ u s2) from fun h2 => ⟨h2, z⟩)) fun _ _ z _ => z)) fun u s2 ⟨t2, y, H2, I2, r2, q2⟩ => ?_
  exact thn (ho pins s2 σ H2 x y v u Q I2 r1 r2 q2) fun w s3 z => ⟨z.1 t2, z.2.2⟩
theorem pec_opR (ho : OpC X (binaryOp op) r) (ha : PE X a ta) (hb : PEg X b tb) : PEc X (.BinOp a op b pos) (tOp r ta tb) := by
  refine ⟨fun pins s σ H Q I h => wpAny_BinOp ?_⟩
  refine thn (ha.run pins s σ H _ I h) fun v s1 ⟨x, H1, I1, r1, q1⟩ => ?_
  refine thn (hb.run pins s1 σ H1 _ I1 q1) fun u s2 ⟨t2, y, H2, I2, r2, q2⟩ => ?_
  exact thn (ho pins s2 σ H2 x y v u Q I2 r1 r2 q2) fun w s3 z => ⟨z.1 t2, z.2.2⟩
end
end
end RFI
end
-- part RGenE
section
set_option Elab.async false
set_option linter.all false
set_option maxRecDepth 100000
set_option maxHeartbeats 1000000
/-! all(x == xs[0] for x in xs), xs a list of whole numbers that the generator expression captures. -/
namespace RFI
open PySem PySem.Spec PyProof.Rows L2
def alike0 (ns : List Int) : Bool := ns.all fun x => decide (x = ns.headD 0)
def tAllEq (K : PySem.W.Frag) (P : Addr) (j : Nat) (te : TE) : TE := fun σ H Q => te σ H fun v H1 => ∃ (yl : Addr) (ns : List Int), v = .ref yl ∧ σ[j]? = some (some (.ref yl)) ∧ SqL K H1 yl (ns.map V.int) ∧ GxR.TabG H1 P ∧ ∀ H2, GxR.Tabbed P H1 H2 → Q (.bl (alike0 ns)) H2
theorem pe_allEq {X : Cx} {c P : Addr} {iter : Expr} {x y : Str} {j kc k : Nat} {p1 p2 p3 p4 p5 px gpos p pos : Pos} {scope : Scope} {te : TE} (hr : Room k X.A) (hg : Gl X "all") (hm : X.mg "all" = none) (TB : GxR.TabB X.base X.mg c P) (hcode : X.env.code = .ref c) (S : GxR.GenS X.env scope x)
    (hy : scope.names.lookup y = some .free) (hcl : ∀ cells, (cloFrom cells scope.names []).lookup y = some ((cells.lookup y).getD 0)) (hN : X.N[j]? = some y) (hky : X.env.kindOf y = some .cell) (hyd : (y == ("__debug__" : Str)) = false) (hyc : (y == ("__classdict__" : Str)) = false) (hxd : (x == ("__debug__" : Str)) = false)
    (hi : PE X iter te) (hs : ∀ v, genFold iter X.env v = pure v)
    (he : starEach [.GeneratorExp (.Compare (.Name x p1) [.Eq] [.Subscript (.Name y p2) (.Constant (.int 0) kc p3) p4] p5) [⟨.Name x px, iter, [], 0⟩] scope gpos] X.env = (false, eval (.GeneratorExp (.Compare (.Name x p1) [.Eq] [.Subscript (.Name y p2) (.Constant (.int 0) kc p3) p4] p5) [⟨.Name x px, iter, [], 0⟩] scope gpos) X.env) :: starEach [] X.env := by rfl) :
    PE X (.Call (.Name "all" p) [.GeneratorExp (.Compare (.Name x p1) [.Eq] [.Subscript (.Name y p2) (.Constant (.int 0) kc p3) p4] p5) [⟨.Name x px, iter, [], 0⟩] scope gpos] [] pos) (tAllEq X.K P j te) := by
  refine ⟨fun pins s σ H Q I h => ?_⟩
  refine all_lst (Ok := fun H1 v b => ∃ (yl : Addr) (ns : List Int) (n : Int), σ[j]? = some (some (.ref yl)) ∧ SqL X.K H1 yl (ns.map V.int) ∧ ns ≠ [] ∧ v = .int n ∧ b = decide (n = ns.headD 0)) (te := fun σ' H' Q' => ∃ Q0 : VK, te σ' H' Q0 ∧ ∀ v H1, Q0 v H1 → Q' v H1) hr hg hm TB hcode S ⟨fun pins s σ H Q I ⟨Q0, h1, h2⟩ => thn (hi.run pins s σ H Q0 I h1) fun u s1 ⟨x, H1, I1, r1, q⟩ => ⟨x, H1, I1, r1, h2 x H1 q⟩⟩ (fun s1 H1 v u b I1 T1 rv ho => ?_) hs I ?_ he
  · obtain ⟨yl, ns, n, hσ, hS, hne, rfl, rfl⟩ := ho
    obtain ⟨t, rfl⟩ := rv
    obtain ⟨ps, hP, _⟩ := T1
    obtain ⟨m, hns, hl⟩ := I1.loc
    obtain ⟨u, ru, lk⟩ := hl j y (.ref yl) hN hσ (.inr (.inl hky))
    cases ru
    obtain ⟨cy, hcy, hcell⟩ : ∃ cy, X.env.cells.lookup y = some cy ∧ s1.heap.IsCell cy (some (.ref yl)) := by
      rcases lk with ⟨z, _⟩ | ⟨_, z⟩
      · rw [hky] at z
        cases z
      · exact z
    obtain ⟨its, rs, pl, hsz⟩ := I1.list hS
    have hlen := rs.length
    rw [List.length_map] at hlen
    obtain ⟨n0, ns', e0⟩ := List.exists_cons_of_ne_nil hne
    subst e0
    obtain ⟨u0, hu0, ru0⟩ := rs.get (i := 0) (x := V.int n0) rfl
    obtain ⟨t0, rfl⟩ := ru0
    have hylP : yl ≠ P := fun z => by
      obtain ⟨_, e, hc1, _, hd1⟩ := pl.isList
      have hPs : s1.heap.get? P = some { cls := .none, data := .fields ps } := I1.hok P _ hP
      rw [z, hPs] at e
      cases e
      cases hd1
    have hcP : cy ≠ P := fun z => by
      have q := I1.freeC y cy hcy
      rw [z, hP] at q
      cases q
    intro cenv A' E' s₂ m₂ hsc hgl hce hA hAd hAu hk hn hm2
    have hkf : cenv.scope.kind = .function := by rw [hsc]; exact S.kind
    have hloc : cenv.kindOf x = some .local := by
      show cenv.scope.names.lookup x = some .local
      rw [hsc]
      exact S.loc
    have hfr : cenv.kindOf y = some .free := by
      show cenv.scope.names.lookup y = some .free
      rw [hsc]
      exact hy
    refine wpAny_Compare1 (wpAny_Name (wpAny_loadName_local hkf hloc hn hm2 ?_) hxd)
    refine Subscript_ (wpAny_Name (wpAny_loadName_free (c := cy) (v := .ref yl) hkf hfr (by rw [hce, hcl, hcy]; rfl) ?_ ?_ hyc) hyd)
    · obtain ⟨o, ho, hd⟩ := hcell
      exact ⟨o, hk cy o hcP ho, hd⟩
    refine wpAny_Constant_int ?_
    have hIL : s₂.heap.IsList yl its.toArray := by
      obtain ⟨o, ho, r⟩ := pl.isList
      exact ⟨o, hk yl o hylP ho, r⟩
    refine item_listR hIL (by decide) (by decide) (by simpa using hu0) (eq_int ⟨?_, ?_⟩) (by with_unfolding_all rfl)
    · show Value.bool (n == n0) = Value.bool (decide (n = n0))
      by_cases e : n = n0
      · rw [e]; simp
      · simp [e]
    · exact GxR.keeps_tok _ _
  · refine ⟨_, h, fun v H1 ⟨yl, ns, ev, hσ, hS, hT, q⟩ => ⟨yl, ns.map V.int, ns.map fun x => decide (x = ns.headD 0), ev, hS, hT, by rw [List.length_map, List.length_map], fun i y b hy' hb => ?_, fun H2 t2 => ?_⟩⟩
    · rw [List.getElem?_map] at hy' hb
      cases e : ns[i]? with
      | none => rw [e] at hy'; cases hy'
      | some n =>
        rw [e] at hy' hb
        cases hy'
        cases hb
        exact ⟨yl, ns, n, hσ, hS, fun z => (by rw [z] at e; cases e), rfl, rfl⟩
    · have e : (ns.map fun x => decide (x = ns.headD 0)).all id = alike0 ns := by
        unfold alike0
        rw [List.all_map]
        rfl
      rw [e]
      exact q H2 t2
end RFI
end
-- part REnum
section
set_option Elab.async false
set_option linter.all false
set_option maxRecDepth 100000
set_option maxHeartbeats 2000000
/-! for k, c in enumerate(text). -/
namespace RFI
open PySem PySem.Spec PyProof.Rows L2
/-- a text's signs, each in a new pair behind its place -/
def Ites (x : Str) : It :=
  ⟨fun i _ => i < x.cps.size, fun i H v H' => ∃ T c, v = .ref T ∧ H T = none ∧ H' = upd H T (.tup [.int (i : Nat), .str ⟨#[c]⟩]) ∧ x.cps[i]? = some c, fun i _ => i = x.cps.size⟩
theorem draws_str {P : Program} {w : World} {A : Around} (hh : A.handled = none) (it : Addr) (x : Str) (t : Tok) :
    Draws P w A it [it] x.cps.size (fun i v => ∃ c u, x.cps[i]? = some c ∧ v = .str ⟨#[c]⟩ u) (fun i h => h.IsStrIter it (strIterType x) x t i) := by
  have e : strIterType x = "str_ascii_iterator" ∨ strIterType x = "str_iterator" := by
    unfold strIterType
    split
    · exact .inl rfl
    · exact .inr rfl
  rcases e with e | e
  · rw [e]; exact Draws.strAscii hh it x t
  · rw [e]; exact Draws.strWide hh it x t
theorem turn_enumS {P : Program} {w : World} {K : PySem.W.Frag} {elts : List Expr} {kk : Nat} {tpos : Pos} (x : Str) (t : Tok) (e it : Addr) :
    Turn P w K (.Tuple elts kk tpos) (Ites x) [e, it] e (fun i h => (∃ old, IsEnum h e it ((i : Nat) : Int) old) ∧ h.IsStrIter it (strIterType x) x t i ∧ e ≠ it) where
  mem := by simp
  obj := fun i h st b hb => by
    obtain ⟨⟨old, he⟩, ⟨o, ho, hc, hd⟩, _⟩ := st
    have e' : b = e ∨ b = it := by simpa using hb
    rcases e' with z | z
    · rw [z]; exact ⟨_, he, fun v q => nomatch q⟩
    · rw [z]; exact ⟨o, ho, fun v q => by rw [hd] at q; cases q⟩
  keep := fun i h h' st k => by
    obtain ⟨⟨old, he⟩, ⟨o, ho, r⟩, hne⟩ := st
    exact ⟨⟨old, k e (by simp) _ he⟩, ⟨o, k it (by simp) _ ho, r⟩, hne⟩
  item := by
    intro X hP hw hK hc i pins s σ H E I hf st hg
    subst hP hw hK
    obtain ⟨⟨old, he⟩, hit, hne⟩ := st
    have hel : e < s.heap.objs.size := Heap.lt_size he
    have hil : it < s.heap.objs.size := by obtain ⟨_, q, _⟩ := hit; exact Heap.lt_size q
    have hin : X.A.in1.handled = none := by simp [I.ok.hd hc]
    refine wpAny_pyNext_enum_itemD (draws_str hin it x t) he hit hg hne (by simpa using hne) fun u h' tk hpv ho hit' hT hsz hk => ?_
    obtain ⟨c, tc, hcx, rfl⟩ := hpv
    refine ⟨_, rfl, wpAny_letOwnedTupleGo_enum (s := { s with heap := h', toks := tk + 1 }) ho fun h'' he' sb => ?_⟩
    have hT2 : h''.get? s.heap.objs.size = some { cls := .type "tuple", data := .seq #[.int i tk, .str ⟨#[c]⟩ tc] } := (sb.2 _ (Nat.ne_of_gt hel)).trans hT
    have new : ObjOk X.prog X.w (upd H s.heap.objs.size (.tup [.int (i : Nat), .str ⟨#[c]⟩])) h'' s.heap.objs.size (.tup [.int (i : Nat), .str ⟨#[c]⟩]) :=
      ⟨by show 2 ≤ sizeLine; decide, [.int i tk, .str ⟨#[c]⟩ tc], .cons ⟨_, rfl⟩ (.cons ⟨_, rfl⟩ .nil), ⟨_, hT2, rfl, _, rfl⟩⟩
    have I1 : Inv X pins σ (upd H s.heap.objs.size (.tup [.int (i : Nat), .str ⟨#[c]⟩])) { s with heap := h'', toks := tk + 1 } :=
      I.turnedNew (ch := [e, it]) (fun b ob hb q => (sb.2 b (fun z => hb (by simp [z]))).trans (hk b ob (fun z => hb (by simp [z])) (fun z => hb (by simp [z])) q)) hf (Nat.le_refl _) new
    refine ⟨.ref s.heap.objs.size, _, I1, rfl, ⟨_, c, rfl, I.hok.fresh (Nat.le_refl _), rfl, hcx⟩, ⟨⟨.str ⟨#[c]⟩ tc, ?_⟩, ?_, hne⟩, fun b hb => ?_⟩
    · have e1 : ((i + 1 : Nat) : Int) = (i : Int) + 1 := by omega
      rw [e1]; exact he'
    · obtain ⟨o, ho2, r⟩ := hit'
      exact ⟨o, (sb.2 it (Ne.symm hne)).trans ho2, r⟩
    · have hb' : b < s.heap.objs.size := by
        have e' : b = e ∨ b = it := by simpa using hb
        rcases e' with z | z
        · rw [z]; exact hel
        · rw [z]; exact hil
      rw [upd_ne (Nat.ne_of_lt hb')]
      exact (hf b hb).1
  done := by
    intro X hP hw hK hc i pins s σ H E I hf st hg
    subst hP hw hK
    obtain ⟨⟨old, he⟩, hit, hne⟩ := st
    obtain ⟨f0, f1, f2, f3, f4, f5⟩ := hf it (by simp)
    have hin : X.A.in1.handled = none := by simp [I.ok.hd hc]
    have hg' : i = x.cps.size := hg
    subst hg'
    exact wpAny_pyNext_enum_endD (draws_str (P := X.prog) (w := X.w) hin it x t) he hit fun h' eb => ⟨rfl, I.turned (t' := s.toks) (fun b o hb q => eb b o hb q) f0 f1 f3 f4 f5⟩
  self := fun A i s Q E st h => let ⟨⟨_, he⟩, _⟩ := st; wpAny_pyIter_enum he h
def iEnumS (ta : TA) : TI := fun σ H R => ta σ H fun vs H1 => ∃ x, vs = [.str x] ∧ R (Ites x) H1
theorem pi_enumS {X : Cx} {e : Expr} {ta : TA} {p pos tpos : Pos} {elts : List Expr} {kk : Nat} (hg : Gl X "enumerate") (hm : X.mg "enumerate" = none) (ha : PA X [e] ta) (hs : starEach [e] X.env = [(false, eval e X.env)] := by rfl) :
    PI X (.Tuple elts kk tpos) (.Call (.Name "enumerate" p) [e] [] pos) (iEnumS ta) := by
  refine ⟨fun pins s σ H R I h => ?_⟩
  refine Call_ (ld_blt I hg hm boot_enumerate (PyProof.Rows.callWith_type1 (thn (ha.run pos pins s σ H _ I h) fun us s1 ⟨vs, H1, I1, r1, q1⟩ => ?_) hs rfl))
  obtain ⟨x, ex, q⟩ := q1
  subst ex
  cases r1 with
  | cons r rr =>
    cases rr
    obtain ⟨t, rfl⟩ := r
    refine call_enumerate_str fun h' he hit hsz hk => wpAny_pyIter_enum he ?_
    have I2 : Inv X pins σ H1 { s1 with heap := h' } := I1.kept (t' := s1.toks) hk
    refine ⟨s1.heap.objs.size + 1, [s1.heap.objs.size + 1, s1.heap.objs.size], _, _, H1, rfl, I2, turn_enumS x t (s1.heap.objs.size + 1) s1.heap.objs.size, ⟨⟨.none, he⟩, hit, Nat.succ_ne_self _⟩, fun b hb => ?_, q⟩
    have hle : s1.heap.objs.size ≤ b := by
      have e' : b = s1.heap.objs.size + 1 ∨ b = s1.heap.objs.size := by simpa using hb
      rcases e' with z | z
      · rw [z]; exact Nat.le_add_right _ _
      · rw [z]; exact Nat.le_refl _
    exact I1.fpOk hle (I1.hok.fresh hle)
theorem walk_enumS {x : Str} : Walk (Ites x) x.cps.size (fun _ => True) (fun i H v H' => ∃ T c, v = .ref T ∧ H T = none ∧ H' = upd H T (.tup [.int (i : Nat), .str ⟨#[c]⟩]) ∧ x.cps[i]? = some c) :=
  ⟨fun _ _ hi _ => hi, fun _ _ => rfl, fun _ _ _ _ _ _ y => y⟩
end RFI
end
-- part REnPw
section
set_option Elab.async false
set_option linter.all false
set_option maxRecDepth 100000
set_option maxHeartbeats 2000000
/-! for k, (a, b) in enumerate(pairwise(xs)). -/
namespace RFI
open PySem PySem.Spec PyProof.Rows L2
open PySem.Builtin.Itertools
/-- the object, whatever of its own tuple it holds to be out -/
abbrev IsPwB (h : Heap) (z it TO : Addr) (f0 : Value) (b1 : Bool) (old : Value) : Prop := h.get? z = some { cls := .type "itertools.pairwise", dict := none, data := .fields #[f0, .bool b1, .ref it, old, .ref TO], slots := #[] }
section
variable {prog : Program} {w : World} {A : Around} {E : Value → Shared → Prop} {s : Shared}
theorem wpAny_alive {M : Model} {a : Addr} {Q : Option Obj → Shared → Prop} (h : Q (s.heap.get? a) s) : wpAny M A (loadIfAlive a) Q E s := fun _ _ _ => h
/-- whether its tuple may be taken again: either way -/
theorem pw_free {z it TO : Addr} {f0 old : Value} {b1 : Bool} {Q : Bool → Shared → Prop} (hz : IsPwB s.heap z it TO f0 b1 old) (hf : f0 = .none ∨ ∃ T0 : Addr, f0 = rawInt T0)
    (h1 : Q true s) (h2 : ∀ h' b2 (T0 : Addr), f0 = rawInt T0 → IsPwB h' z it TO f0 b2 old → Heap.SameBut z s.heap h' → Q false { s with heap := h' }) : wpAny (model prog w) A (itOwnedIsFree (.ref z)) Q E s := by
  unfold itOwnedIsFree
  rcases hf with rfl | ⟨T0, rfl⟩
  · exact wpAny_bind (wpAny_field hz rfl (x := .none) rfl (wpAny_pure h1))
  · refine wpAny_bind (wpAny_field hz rfl (x := rawInt T0) rfl ?_)
    show wpAny _ _ (loadIfAlive ((T0 : Int)).toNat >>= _) _ _ s
    refine wpAny_bind (wpAny_alive ?_)
    cases s.heap.get? ((T0 : Int)).toNat with
    | none => exact wpAny_pure h1
    | some o =>
      show wpAny _ _ (field (.ref z) 1 >>= _) _ _ s
      refine wpAny_bind (wpAny_field hz rfl (x := .bool b1) rfl ?_)
      cases b1 with
      | true => exact wpAny_pure (h2 s.heap true T0 rfl hz (Heap.SameBut.refl ..))
      | false =>
        show wpAny _ _ (setField (.ref z) 1 (.bool true) >>= _) _ _ s
        refine wpAny_bind (wpAny_setField_rec hz (by simp) fun h' hz' hs' => ?_)
        exact wpAny_pure (h2 h' true T0 rfl hz' hs')
/-- behind the one ahead: a new pair, the object one further -/
def PwOut (s : Shared) (z it TO l : Addr) (k : Nat) (x y : Value) (Q : Value → Shared → Prop) : Prop :=
  ∀ (h' : Heap) (T0 : Addr) (b1 : Bool), IsPwB h' z it TO (rawInt T0) b1 y → (∃ a b, IsPair h' TO a b) → h'.IsListIter it l (k + 1) → IsPair h' s.heap.objs.size x y → h'.objs.size = s.heap.objs.size + 1 →
    (∀ c o, c ≠ z → c ≠ TO → c ≠ it → s.heap.get? c = some o → h'.get? c = some o) → Q (.ref s.heap.objs.size) { s with heap := h' }
theorem pw_rest_any {z it TO l : Addr} {k : Nat} {xs : Array Value} {x y a b f0 : Value} {b1 : Bool} {Q : Value → Shared → Prop} (D : PwApart z TO it l)
    (hz : IsPwB s.heap z it TO f0 b1 x) (hf : f0 = .none ∨ ∃ T0 : Addr, f0 = rawInt T0) (hTO : IsPair s.heap TO a b) (h1 : s.heap.IsListIter it l k) (hl : s.heap.IsList l xs) (hy : xs[k]? = some y) {ended : Value → Sem Unit} (hQ : PwOut s z it TO l k x y Q) :
    wpAny (model prog w) A (do
      let old ← field (.ref z) 3
      let new ← holding [old] (tryCatch (itRawNext (.ref it)) fun e => do ended e; throw e)
      let result ← holding [old, new] (newTuple [old, new])
      if ← itOwnedIsFree (.ref z) then
        rule "itertools.pairwise.owned-tuple-again"
        let .ref kept ← field (.ref z) 4 | unsupported "internal:itertools.pairwise"
        let was ← itPoolItems (.ref kept)
        updateSeq kept fun _ => #[old, new]
        itOwnedHandOut (.ref z) result
        setField (.ref z) 3 new
        letGo was.toList [result]
      else setField (.ref z) 3 new
      ret result) (fun fin s' => ∃ v, fin = .done (.ret v) ∧ Q v s') E s := by
  refine wpAny_bind (wpAny_field hz rfl (x := x) rfl ?_)
  refine wpAny_bind (wpAny_holding (wpAny_tryCatch (itnext_item h1 hl hy fun h₁ h1₁ hs₁ => ?_)))
  refine wpAny_bind (wpAny_holding (wpAny_newTuple ?_))
  have hsz₁ : h₁.objs.size = s.heap.objs.size := hs₁.1
  have hzlt : z < s.heap.objs.size := Heap.lt_size hz
  have hTlt : TO < s.heap.objs.size := Heap.lt_size hTO
  have hz₂ : IsPwB (h₁.push { cls := .type "tuple", data := .seq #[x, y] }) z it TO f0 b1 x := Heap.get?_push_of_some _ (hs₁.extBut _ _ D.itz.symm hz)
  have hTO₂ : IsPair (h₁.push { cls := .type "tuple", data := .seq #[x, y] }) TO a b := Heap.get?_push_of_some _ (hs₁.extBut _ _ D.TOit hTO)
  have h1₂ : (h₁.push { cls := .type "tuple", data := .seq #[x, y] }).IsListIter it l (k + 1) := h1₁.at fun o e => Heap.get?_push_of_some _ e
  have hT₂ : IsPair (h₁.push { cls := .type "tuple", data := .seq #[x, y] }) s.heap.objs.size x y := by rw [← hsz₁]; exact Heap.get?_push_size _ rfl
  have hk₂ : ∀ c o, c ≠ it → s.heap.get? c = some o → (h₁.push { cls := .type "tuple", data := .seq #[x, y] }).get? c = some o := fun c o hc e => Heap.get?_push_of_some _ (hs₁.extBut _ _ hc e)
  have hs₂ : (h₁.push { cls := .type "tuple", data := .seq #[x, y] }).objs.size = s.heap.objs.size + 1 := by rw [Heap.size_push, hsz₁]
  rw [hsz₁]
  generalize h₁.push { cls := .type "tuple", data := .seq #[x, y] } = h₂ at hz₂ hTO₂ h1₂ hT₂ hk₂ hs₂ ⊢
  refine wpAny_bind (pw_free hz₂ hf ?_ fun h₃ b2 T0 ef hz₃ sb₃ => ?_)
  · simp only [if_true]
    refine wpAny_bind (wpAny_rule ?_)
    refine wpAny_bind (wpAny_field hz₂ rfl (x := .ref TO) rfl ?_)
    unfold itPoolItems
    refine wpAny_bind (wpAny_bind (wpAny_seqItems hTO₂ rfl (wpAny_pure ?_)))
    refine wpAny_bind (wpAny_updateSeq hTO₂ rfl ?_)
    have hTO₃ := Heap.get?_update_self (Obj.mapSeq fun _ => #[x, y]) hTO₂ rfl
    have sb₃ : Heap.SameBut TO h₂ (h₂.update TO (Obj.mapSeq fun _ => #[x, y])) := Heap.SameBut.update ..
    have hTO₃' : IsPair (h₂.update TO (Obj.mapSeq fun _ => #[x, y])) TO x y := hTO₃
    have hz₃ : IsPwB (h₂.update TO (Obj.mapSeq fun _ => #[x, y])) z it TO f0 b1 x := sb₃.extBut _ _ D.TOz.symm hz₂
    generalize h₂.update TO (Obj.mapSeq fun _ => #[x, y]) = h₃ at sb₃ hTO₃' hz₃ ⊢
    unfold itOwnedHandOut
    refine wpAny_bind (wpAny_bind (wpAny_setField_rec hz₃ (by simp) fun h₄ hz₄ hs₄ => ?_))
    replace hz₄ : IsPwB h₄ z it TO (rawInt s.heap.objs.size) b1 x := hz₄
    refine wpAny_setField_rec hz₄ (by simp) fun h₅ hz₅ hs₅ => ?_
    replace hz₅ : IsPwB h₅ z it TO (rawInt s.heap.objs.size) false x := hz₅
    refine wpAny_bind (wpAny_setField_rec hz₅ (by simp) fun h₆ hz₆ hs₆ => ?_)
    replace hz₆ : IsPwB h₆ z it TO (rawInt s.heap.objs.size) false y := hz₆
    refine wpAny_bind (wpAny_letGo ?_)
    have up : ∀ c o, c ≠ z → h₃.get? c = some o → h₆.get? c = some o := fun c o hc e => hs₆.extBut _ _ hc (hs₅.extBut _ _ hc (hs₄.extBut _ _ hc e))
    have kp : ∀ c o, c ≠ z → c ≠ TO → h₂.get? c = some o → h₆.get? c = some o := fun c o c1 c2 e => up c o c1 (sb₃.extBut _ _ c2 e)
    refine wpAny_pure ⟨_, rfl, hQ h₆ s.heap.objs.size false hz₆ ⟨x, y, up _ _ D.TOz hTO₃'⟩ (h1₂.at fun o e => kp _ o D.itz D.TOit.symm e) (kp _ _ (Nat.ne_of_gt hzlt) (Nat.ne_of_gt hTlt) hT₂) ?_ fun c o c1 c2 c3 e => kp c o c1 c2 (hk₂ c o c3 e)⟩
    rw [hs₆.1, hs₅.1, hs₄.1, sb₃.1, hs₂]
  · simp only [Bool.false_eq_true, if_false]
    subst ef
    refine wpAny_bind (wpAny_setField_rec hz₃ (by simp) fun h₆ hz₆ hs₆ => ?_)
    replace hz₆ : IsPwB h₆ z it TO (rawInt T0) b2 y := hz₆
    have kp : ∀ c o, c ≠ z → h₂.get? c = some o → h₆.get? c = some o := fun c o c1 e => hs₆.extBut _ _ c1 (sb₃.extBut _ _ c1 e)
    refine wpAny_pure ⟨_, rfl, hQ h₆ T0 b2 hz₆ ⟨a, b, kp _ _ D.TOz hTO₂⟩ (h1₂.at fun o e => kp _ o D.itz e) (kp _ _ (Nat.ne_of_gt hzlt) hT₂) ?_ fun c o c1 _ c3 e => kp c o c1 (hk₂ c o c3 e)⟩
    rw [hs₆.1, sb₃.1, hs₂]
theorem pwb_more {z it TO l : Addr} {k : Nat} {xs : Array Value} {x y a b f0 : Value} {b1 : Bool} {Q : Value → Shared → Prop} (D : PwApart z TO it l)
    (hz : IsPwB s.heap z it TO f0 b1 x) (hf : f0 = .none ∨ ∃ T0 : Addr, f0 = rawInt T0) (hTO : IsPair s.heap TO a b) (h1 : s.heap.IsListIter it l k) (hl : s.heap.IsList l xs) (hx : Cl x) (hy : xs[k]? = some y) (hQ : PwOut s z it TO l k x y Q) :
    wpAny (model prog w) A (Builtin.«itertools.pairwise.__next__» ⟨[.ref z], []⟩) (fun fin s' => ∃ v, fin = .done (.ret v) ∧ Q v s') E s := by
  show wpAny _ _ (field (.ref z) 2 >>= _) _ _ _
  refine wpAny_bind (wpAny_field hz rfl (x := .ref it) rfl ?_)
  show wpAny _ _ (if (Value.ref it == Value.none) = true then _ else _) _ _ s
  rw [if_neg (show ¬ ((Value.ref it == Value.none) = true) from Bool.false_ne_true)]
  show wpAny _ _ (field (.ref z) 3 >>= _) _ _ _
  refine wpAny_bind (wpAny_field hz rfl (x := x) rfl ?_)
  show wpAny _ _ (if (x == itNothing) = true then _ else _) _ _ s
  rw [if_neg (by rw [hx]; decide)]
  exact pw_rest_any D hz hf hTO h1 hl hy hQ
theorem pwb_first {z it TO l : Addr} {xs : Array Value} {x y a b f0 : Value} {b1 : Bool} {Q : Value → Shared → Prop} (D : PwApart z TO it l)
    (hz : IsPwB s.heap z it TO f0 b1 (.int 0 0)) (hf : f0 = .none ∨ ∃ T0 : Addr, f0 = rawInt T0) (hTO : IsPair s.heap TO a b) (h1 : s.heap.IsListIter it l 0) (hl : s.heap.IsList l xs) (hx : xs[0]? = some x) (hy : xs[1]? = some y) (hQ : PwOut s z it TO l 1 x y Q) :
    wpAny (model prog w) A (Builtin.«itertools.pairwise.__next__» ⟨[.ref z], []⟩) (fun fin s' => ∃ v, fin = .done (.ret v) ∧ Q v s') E s := by
  show wpAny _ _ (field (.ref z) 2 >>= _) _ _ _
  refine wpAny_bind (wpAny_field hz rfl (x := .ref it) rfl ?_)
  show wpAny _ _ (if (Value.ref it == Value.none) = true then _ else _) _ _ s
  rw [if_neg (show ¬ ((Value.ref it == Value.none) = true) from Bool.false_ne_true)]
  show wpAny _ _ (field (.ref z) 3 >>= _) _ _ _
  refine wpAny_bind (wpAny_field hz rfl (x := .int 0 0) rfl ?_)
  show wpAny _ _ (if (Value.int 0 0 == itNothing) = true then _ else _) _ _ s
  rw [if_pos (by decide)]
  refine wpAny_bind (wpAny_rule ?_)
  refine wpAny_bind (wpAny_tryCatch (itnext_item h1 hl hx fun h₁ h1₁ hs₁ => ?_))
  have hz₁ : IsPwB h₁ z it TO f0 b1 (.int 0 0) := hs₁.extBut _ _ D.itz.symm hz
  refine wpAny_bind (wpAny_setField_rec hz₁ (by simp) fun h₂ hz₂ hs₂ => ?_)
  replace hz₂ : IsPwB h₂ z it TO f0 b1 x := hz₂
  show wpAny _ _ (field (.ref z) 2 >>= _) _ _ _
  refine wpAny_bind (wpAny_field hz₂ rfl (x := .ref it) rfl ?_)
  show wpAny _ _ (if (Value.ref it == Value.none) = true then _ else _) _ _ _
  rw [if_neg (show ¬ ((Value.ref it == Value.none) = true) from Bool.false_ne_true)]
  have sz : h₂.objs.size = s.heap.objs.size := by rw [hs₂.1, hs₁.1]
  refine pw_rest_any (s := { s with heap := h₂ }) (Q := Q) D hz₂ hf (hs₂.extBut _ _ D.TOz (hs₁.extBut _ _ D.TOit hTO)) (h1₁.at fun o e => hs₂.extBut _ _ D.itz e) ((hl.extBut hs₁.extBut D.lit).extBut hs₂.extBut D.lz) hy fun h' T0 b1' a1 a2 a3 a4 a5 a6 => ?_
  have a4 : IsPair h' h₂.objs.size x y := a4
  have a5 : h'.objs.size = h₂.objs.size + 1 := a5
  show Q (.ref h₂.objs.size) _
  rw [sz] at a4 a5 ⊢
  exact hQ h' T0 b1' a1 a2 a3 a4 a5 fun c o c1 c2 c3 e => a6 c o c1 c2 c3 (hs₂.extBut _ _ c1 (hs₁.extBut _ _ c3 e))
/-- the end: no item is left behind the one ahead, or none at all -/
theorem pwb_end {z it TO l : Addr} {k : Nat} {xs : Array Value} {x f0 : Value} {b1 : Bool} {Q : Fin → Shared → Prop} (hh : A.handled = none) (D : PwApart z TO it l)
    (hz : IsPwB s.heap z it TO f0 b1 x) (h1 : s.heap.IsListIter it l k) (hl : s.heap.IsList l xs) (hc : (k = 0 ∧ x = .int 0 0 ∧ xs.size ≤ 1) ∨ xs[k]? = none)
    (hE : ∀ h' e, (∀ c o, c ≠ z → c ≠ it → s.heap.get? c = some o → h'.get? c = some o) → (∃ o, h'.get? e = some o ∧ o.cls = .type "StopIteration") → E (.ref e) { s with heap := h' }) :
    wpAny (model prog w) A (Builtin.«itertools.pairwise.__next__» ⟨[.ref z], []⟩) Q E s := by
  -- an exception of the draw: the object is emptied, the exception goes on
  have fin : ∀ (s' : Shared) (h' : Heap) (e : Addr) (x' : Value) (hld : List Value), s' = { s with heap := h' } → IsPwB h' z it TO f0 b1 x' → (∀ c o, c ≠ z → c ≠ it → s.heap.get? c = some o → h'.get? c = some o) → (∃ o, h'.get? e = some o ∧ o.cls = .type "StopIteration") →
      ∀ {β : Type} (K : β → Shared → Prop), wpAny (model prog w) A ((do
        let old ← field (.ref z) 3
        setField (.ref z) 2 .none
        setField (.ref z) 3 itNothing
        letGo [.ref it, old] [.ref e]) >>= fun _ => (throw (Value.ref e) : Sem β)) K E s' := by
    rintro s' h' e x' hld rfl hz' hk he β K
    refine wpAny_bind ?_
    refine wpAny_bind (wpAny_field hz' rfl (x := x') rfl ?_)
    refine wpAny_bind (wpAny_setField_rec hz' (by simp) fun h₂ hz₂ hs₂ => ?_)
    refine wpAny_bind (wpAny_setField_rec hz₂ (by simp) fun h₃ hz₃ hs₃ => ?_)
    refine wpAny_letGo (wpAny_throw ?_)
    obtain ⟨o, ho, hcl⟩ := he
    have nez : e ≠ z := fun q => by
      rw [q, hz'] at ho
      cases ho
      simp at hcl
    exact hE h₃ e (fun c o c1 c2 q => hs₃.extBut _ _ c1 (hs₂.extBut _ _ c1 (hk c o c1 c2 q))) ⟨o, hs₃.extBut _ _ nez (hs₂.extBut _ _ nez ho), hcl⟩
  show wpAny _ _ (field (.ref z) 2 >>= _) _ _ _
  refine wpAny_bind (wpAny_field hz rfl (x := .ref it) rfl ?_)
  show wpAny _ _ (if (Value.ref it == Value.none) = true then _ else _) _ _ s
  rw [if_neg (show ¬ ((Value.ref it == Value.none) = true) from Bool.false_ne_true)]
  show wpAny _ _ (field (.ref z) 3 >>= _) _ _ _
  refine wpAny_bind (wpAny_field hz rfl (x := x) rfl ?_)
  show wpAny _ _ (if (x == itNothing) = true then _ else _) _ _ s
  rcases hc with ⟨rfl, rfl, hsz⟩ | hk
  · rw [if_pos (by decide)]
    refine wpAny_bind (wpAny_rule ?_)
    cases hx0 : xs[0]? with
    | none =>
      refine wpAny_bind (wpAny_tryCatch (itnext_end hh h1 hl hx0 fun h' e he ho => ?_))
      exact fin _ h' e _ [] rfl (he _ _ D.itz.symm hz) (fun c o c1 c2 q => he _ _ c2 q) ho _
    | some x0 =>
      have hx1 : xs[1]? = none := by simp; omega
      refine wpAny_bind (wpAny_tryCatch (itnext_item h1 hl hx0 fun h₁ h1₁ hs₁ => ?_))
      have hz₁ : IsPwB h₁ z it TO f0 b1 (.int 0 0) := hs₁.extBut _ _ D.itz.symm hz
      refine wpAny_bind (wpAny_setField_rec hz₁ (by simp) fun h₂ hz₂ hs₂ => ?_)
      replace hz₂ : IsPwB h₂ z it TO f0 b1 x0 := hz₂
      show wpAny _ _ (field (.ref z) 2 >>= _) _ _ _
      refine wpAny_bind (wpAny_field hz₂ rfl (x := .ref it) rfl ?_)
      show wpAny _ _ (if (Value.ref it == Value.none) = true then _ else _) _ _ _
      rw [if_neg (show ¬ ((Value.ref it == Value.none) = true) from Bool.false_ne_true)]
      show wpAny _ _ (field (.ref z) 3 >>= _) _ _ _
      refine wpAny_bind (wpAny_field hz₂ rfl (x := x0) rfl ?_)
      refine wpAny_bind (wpAny_holding (wpAny_tryCatch (itnext_end (s := { s with heap := h₂ }) hh (h1₁.at fun o e => hs₂.extBut _ _ D.itz e) ((hl.extBut hs₁.extBut D.lit).extBut hs₂.extBut D.lz) hx1 fun h' e he ho => ?_)))
      exact fin _ h' e _ [] rfl (he _ _ D.itz.symm hz₂) (fun c o c1 c2 q => he _ _ c2 (hs₂.extBut _ _ c1 (hs₁.extBut _ _ c2 q))) ho _
  · cases hx : x == itNothing with
    | true =>
      rw [if_pos rfl]
      refine wpAny_bind (wpAny_rule ?_)
      refine wpAny_bind (wpAny_tryCatch (itnext_end hh h1 hl hk fun h' e he ho => ?_))
      exact fin _ h' e _ [] rfl (he _ _ D.itz.symm hz) (fun c o c1 c2 q => he _ _ c2 q) ho _
    | false =>
      rw [if_neg Bool.false_ne_true]
      show wpAny _ _ (field (.ref z) 3 >>= _) _ _ _
      refine wpAny_bind (wpAny_field hz rfl (x := x) rfl ?_)
      refine wpAny_bind (wpAny_holding (wpAny_tryCatch (itnext_end hh h1 hl hk fun h' e he ho => ?_)))
      exact fin _ h' e _ [] rfl (he _ _ D.itz.symm hz) (fun c o c1 c2 q => he _ _ c2 q) ho _

/-- enumerate's turn over a thing whose own turn is told -/
theorem enum_next_by {e z : Addr} {i : Nat} {old : Value} {R : Value → Heap → Prop} {Q : Value → Shared → Prop} (he : IsEnum s.heap e z i old)
    (inner : ∀ (Q : Value → Shared → Prop), (∀ x h', R x h' → Q x { s with heap := h' }) → wpAny (model prog w) A (Builtin.SmallTypes.nextOf (.ref z)) Q E s) (hR : ∀ x h', R x h' → IsEnum h' e z i old)
    (hQ : ∀ x h₁ h', R x h₁ → IsEnumOut h' e z ((i : Int) + 1) x h₁.objs.size → h'.get? h₁.objs.size = some { cls := .type "tuple", data := .seq #[.int i s.toks, x] } → h'.objs.size = h₁.objs.size + 1 →
      (∀ b o, b ≠ e → h₁.get? b = some o → h'.get? b = some o) → Q (.ref h₁.objs.size) { s with heap := h', toks := s.toks + 1 }) :
    wpAny (model prog w) A (Builtin.«enumerate.__next__» ⟨[.ref e], []⟩) (fun fin s' => ∃ v, fin = .done (.ret v) ∧ Q v s') E s := by
  obtain ⟨hp, g, d, tk, os⟩ := s
  show wpAny _ _ (field (.ref e) 2 >>= _) _ _ _
  refine wpAny_bind (wpAny_field he rfl (x := .ref z) rfl ?_)
  refine wpAny_bind (inner _ fun x h₁ hr => ?_)
  have he₁ := hR x h₁ hr
  show wpAny _ _ (field (.ref e) 3 >>= _) _ _ ⟨h₁, g, d, tk, os⟩
  refine wpAny_bind (wpAny_field he₁ rfl (x := rawInt i) rfl ?_)
  show wpAny _ _ (field (.ref e) 4 >>= _) _ _ ⟨h₁, g, d, tk, os⟩
  refine wpAny_bind (wpAny_field he₁ rfl (x := .none) rfl ?_)
  show wpAny _ _ (mkInt i >>= _) _ _ ⟨h₁, g, d, tk, os⟩
  refine wpAny_bind (wpAny_mkInt ?_)
  show wpAny _ _ (setField (.ref e) 3 (rawInt ((i : Int) + 1)) >>= _) _ _ ⟨h₁, g, d, tk + 1, os⟩
  refine wpAny_bind (wpAny_setField_rec he₁ (by simp) fun h₂ he₂ hs₂ => ?_)
  replace hs₂ : Heap.SameBut e h₁ h₂ := hs₂
  replace he₂ : IsEnum h₂ e z ((i : Int) + 1) old := he₂
  show wpAny _ _ (setField (.ref e) 4 .none >>= _) _ _ ⟨h₂, g, d, tk + 1, os⟩
  refine wpAny_bind (wpAny_setField_rec he₂ (by simp) fun h₃ he₃ hs₃ => ?_)
  replace hs₃ : Heap.SameBut e h₂ h₃ := hs₃
  replace he₃ : IsEnum h₃ e z ((i : Int) + 1) old := he₃
  show wpAny _ _ (newTuple [.int i tk, x] >>= _) _ _ ⟨h₃, g, d, tk + 1, os⟩
  refine wpAny_bind (wpAny_newTuple ?_)
  have he₄ : IsEnum (h₃.push { cls := .type "tuple", data := .seq #[.int i tk, x] }) e z ((i : Int) + 1) old := Heap.get?_push_of_some _ he₃
  generalize hh₄ : h₃.push { cls := .type "tuple", data := .seq #[.int i tk, x] } = h₄ at he₄
  have hsz : h₃.objs.size = h₁.objs.size := by rw [hs₃.1, hs₂.1]
  have hel : e < h₁.objs.size := Heap.lt_size he₁
  have ht₄ : h₄.get? h₁.objs.size = some { cls := .type "tuple", data := .seq #[.int i tk, x] } := by rw [← hh₄, ← hsz]; exact Heap.get?_push_size _ rfl
  have hz₄ : h₄.objs.size = h₁.objs.size + 1 := by rw [← hh₄, Heap.size_push, hsz]
  have hk₄ : ∀ b o, b ≠ e → h₁.get? b = some o → h₄.get? b = some o := fun b o hbe hb => by
    rw [← hh₄]; exact Heap.get?_push_of_some _ (hs₃.extBut b o hbe (hs₂.extBut b o hbe hb))
  show wpAny _ _ (Builtin.SmallTypes.ownedTupleIsFree (.ref e) >>= _) _ _ ⟨h₄, g, d, tk + 1, os⟩
  rw [hsz]
  clear hh₄ he₃ hs₃ he₂ hs₂ hsz h₃ h₂
  refine wpAny_bind ?_
  · unfold Builtin.SmallTypes.ownedTupleIsFree
    refine wpAny_bind (wpAny_field he₄ rfl (x := .none) rfl (wpAny_pure ?_))
    simp only [if_true]
    refine wpAny_bind (wpAny_rule ?_)
    refine wpAny_bind (wpAny_field he₄ rfl (x := old) rfl ?_)
    refine wpAny_bind (wpAny_setField_rec he₄ (by simp) fun h₅ he₅ hs₅ => ?_)
    replace hs₅ : Heap.SameBut e h₄ h₅ := hs₅
    replace he₅ : IsEnum h₅ e z ((i : Int) + 1) x := he₅
    show wpAny _ _ (Builtin.SmallTypes.ownedTupleHandOut (.ref e) (.ref h₁.objs.size) >>= _) _ _ ⟨h₅, g, d, tk + 1, os⟩
    refine wpAny_bind ?_
    · unfold Builtin.SmallTypes.ownedTupleHandOut
      refine wpAny_bind (wpAny_setField_rec he₅ (by simp) fun h₆ he₆ hs₆ => ?_)
      replace hs₆ : Heap.SameBut e h₅ h₆ := hs₆
      replace he₆ : IsEnumOut h₆ e z ((i : Int) + 1) x h₁.objs.size := he₆
      refine wpAny_setField_rec he₆ (by simp) fun h₇ he₇ hs₇ => ?_
      replace hs₇ : Heap.SameBut e h₆ h₇ := hs₇
      replace he₇ : IsEnumOut h₇ e z ((i : Int) + 1) x h₁.objs.size := he₇
      refine wpAny_bind (wpAny_letGo (wpAny_pure ⟨_, rfl, hQ x h₁ h₇ hr he₇ ?_ ?_ ?_⟩))
      · exact hs₇.extBut _ _ (Nat.ne_of_gt hel) (hs₆.extBut _ _ (Nat.ne_of_gt hel) (hs₅.extBut _ _ (Nat.ne_of_gt hel) ht₄))
      · rw [hs₇.1, hs₆.1, hs₅.1, hz₄]
      · exact fun b o hbe hb => hs₇.extBut b o hbe (hs₆.extBut b o hbe (hs₅.extBut b o hbe (hk₄ b o hbe hb)))
theorem nextOf_pw {z it TO : Addr} {f0 old : Value} {b1 : Bool} {Q : Value → Shared → Prop} (hz : IsPwB s.heap z it TO f0 b1 old)
    (h : wpAny (model prog w) A.in1 (Builtin.«itertools.pairwise.__next__» ⟨[.ref z], []⟩) (fun fin s' => ∃ v, fin = .done (.ret v) ∧ Q v s') E s) : wpAny (model prog w) A (Builtin.SmallTypes.nextOf (.ref z)) Q E s := by
  have hT0 : s.TypeIs (.ref z) "itertools.pairwise" := ⟨_, hz, rfl⟩
  unfold Builtin.SmallTypes.nextOf
  refine wpAny_bind (wpAny_callSpecial?_slot (name := Str.ofString "__next__") hT0 slot_pw_next (wpAny_call_entry slot_pw_next hT0 entry_pw_next ?_ (args_pw_next _)))
  exact wpAny_mono h (fun fin s' ⟨v, e, q⟩ => ⟨v, e, wpAny_pure q⟩) fun _ _ x => x
set_option maxHeartbeats 4000000 in
theorem meets_enumerate_newP (z it TO : Addr) (f0 old : Value) (b1 : Bool) :
    Meets (Builtin.«enumerate.__new__» ⟨[.type "enumerate", .ref z], []⟩) (fun _ R s => IsPwB s.heap z it TO f0 b1 old ∧
      R (.ok (.ret (.ref s.heap.objs.size))) { s with heap := s.heap.push { cls := .type "enumerate", data := .fields #[.none, .bool false, .ref z, rawInt 0, .none, .none] } }) :=
  .of_wp fun prog w A R s h => by
    obtain ⟨hp, g, d, tk, os⟩ := s; obtain ⟨hz, h⟩ := h
    have hsub := sub_enumerate
    have pit : ∀ {A' : Around} {E' : Value → Shared → Prop} {Q' : Value → Shared → Prop}, Q' (.ref z) ⟨hp, g, d, tk, os⟩ → wpAny (model prog w) A' (pyIter (.ref z)) Q' E' ⟨hp, g, d, tk, os⟩ := by
      intro A' E' Q' hq
      have hT : Shared.TypeIs ⟨hp, g, d, tk, os⟩ (.ref z) "itertools.pairwise" := ⟨_, hz, rfl⟩
      refine wpAny_pyIter_slot hT slot_pw_iter (wpAny_call_entry slot_pw_iter hT entry_pw_iter ?_ (args_pw_iter _))
      show wpAny _ _ (ret (.ref z)) _ _ _
      exact wpAny_pure ⟨_, rfl, "itertools.pairwise", _, hT, slot_pw_next.lookup, hq⟩
    wp_walk
    refine wpAny_stack_any fun st => wpAny_pure ?_
    split
    · rename_i c _ _ _ _ _
      cases (c == Value.type "enumerate")
      · wp_walk using pit
        exact ⟨_, rfl, h⟩
      · wp_walk using pit
        exact ⟨_, rfl, h⟩
    · wp_walk using pit
      exact ⟨_, rfl, h⟩
theorem call_enumerate_pw {z it TO : Addr} {f0 old : Value} {b1 : Bool} {Q : Value → Shared → Prop} (hz : IsPwB s.heap z it TO f0 b1 old)
    (h : ∀ h', IsEnum h' s.heap.objs.size z 0 .none → h'.objs.size = s.heap.objs.size + 1 → (∀ b o, s.heap.get? b = some o → h'.get? b = some o) → Q (.ref s.heap.objs.size) { s with heap := h' }) :
    wpAny (model prog w) A (call (.type "enumerate") [.ref z]) Q E s := by
  refine callType_new F.called_enumerate (by decide) (F.typeCall_enumerate_1 _) (F.newCall_enumerate_1 _) (fun obj => F.args_object_init_2 obj _) F.entry_enumerate_new
    (meets_enumerate_newP z it TO f0 old b1) ⟨hz, ?_⟩
  have he : IsEnum (s.heap.push { cls := .type "enumerate", data := .fields #[.none, .bool false, .ref z, rawInt 0, .none, .none] }) s.heap.objs.size z 0 .none := Heap.get?_push_size _ rfl
  exact ⟨⟨_, he, rfl⟩, h _ he (Heap.size_push ..) fun b o x => Heap.get?_push_of_some _ x⟩
end
/-- the list at a, its neighbours in new pairs, each in a new pair behind its place -/
def Itep (K : PySem.W.Frag) (a : Addr) (xs : List V) : It :=
  ⟨fun i H => SqL K H a xs ∧ ClI K H a xs ∧ i + 1 < xs.length,
    fun i H v H' => ∃ T U x y, v = .ref U ∧ H T = none ∧ upd H T (.tup [x, y]) U = none ∧ H' = upd (upd H T (.tup [x, y])) U (.tup [.int (i : Nat), .ref T]) ∧ xs[i]? = some x ∧ xs[i + 1]? = some y,
    fun i H => SqL K H a xs ∧ ClI K H a xs ∧ xs.length ≤ i + 1⟩
structure EpApart (e z TO it l : Addr) : Prop where
  P : PwApart z TO it l
  ez : e ≠ z
  eT : e ≠ TO
  ei : e ≠ it
  le : l ≠ e
def EpState (e z TO it a : Addr) (xs : List V) (i : Nat) (h : Heap) : Prop :=
  (∃ eo, IsEnum h e z ((i : Nat) : Int) eo) ∧ (∃ x y, IsPair h TO x y) ∧ ∃ (f0 : Value) (b1 : Bool) (old : Value), IsPwB h z it TO f0 b1 old ∧ (f0 = .none ∨ ∃ T0 : Addr, f0 = rawInt T0) ∧
    ((i = 0 ∧ old = .int 0 0 ∧ h.IsListIter it a 0) ∨ (0 < i ∧ (i + 1 < xs.length → Cl old) ∧ (∃ x, xs[i]? = some x ∧ RelV x old) ∧ h.IsListIter it a (i + 1)))
theorem turn_ep {P : Program} {w : World} {K : PySem.W.Frag} {elts : List Expr} {kk : Nat} {tpos : Pos} {a e z TO it : Addr} {xs : List V} (D : EpApart e z TO it a) :
    Turn P w K (.Tuple elts kk tpos) (Itep K a xs) [e, z, TO, it] e (EpState e z TO it a xs) where
  mem := by simp
  obj := fun i h st c hc => by
    obtain ⟨⟨eo, he⟩, ⟨x, y, hTO⟩, f0, b1, old, hz, _, h1⟩ := st
    have hit : ∃ k, h.IsListIter it a k := by
      rcases h1 with ⟨_, _, h1⟩ | ⟨_, _, _, h1⟩
      · exact ⟨_, h1⟩
      · exact ⟨_, h1⟩
    obtain ⟨k, o1, e1, _, d1⟩ := hit
    have e' : c = e ∨ c = z ∨ c = TO ∨ c = it := by simpa using hc
    rcases e' with q | q | q | q
    · rw [q]; exact ⟨_, he, fun v q => nomatch q⟩
    · rw [q]; exact ⟨_, hz, fun v q => nomatch q⟩
    · rw [q]; exact ⟨_, hTO, fun v q => nomatch q⟩
    · rw [q]; exact ⟨o1, e1, fun v q => by rw [d1] at q; cases q⟩
  keep := fun i h h' st k => by
    obtain ⟨⟨eo, he⟩, ⟨x, y, hTO⟩, f0, b1, old, hz, hf, h1⟩ := st
    refine ⟨⟨eo, k e (by simp) _ he⟩, ⟨x, y, k TO (by simp) _ hTO⟩, f0, b1, old, k z (by simp) _ hz, hf, ?_⟩
    rcases h1 with ⟨e1, e2, h1⟩ | ⟨e1, e2, e3, h1⟩
    · exact .inl ⟨e1, e2, h1.at fun o q => k it (by simp) o q⟩
    · exact .inr ⟨e1, e2, e3, h1.at fun o q => k it (by simp) o q⟩
  item := by
    intro X hP hw hK hc i pins s σ H E I hf st hg
    subst hP hw hK
    obtain ⟨⟨eo, he⟩, ⟨x0, y0, hTO⟩, f0, b1, old, hz, hf0, h1⟩ := st
    obtain ⟨hq, hcl, hlt⟩ := hg
    obtain ⟨its, rv, p, cls⟩ := clean_listI I hq hcl
    have hlen := rv.length
    have hx : xs[i]? = some xs[i] := List.getElem?_eq_getElem (by omega)
    have hy : xs[i + 1]? = some xs[i + 1] := List.getElem?_eq_getElem hlt
    obtain ⟨u, hu, ru⟩ := rv.get hx
    obtain ⟨u2, hu2, ru2⟩ := rv.get hy
    have cu2 : i + 1 + 1 < xs.length → Cl u2 := fun h => cls (i + 1) u2 (Nat.succ_pos _) (by omega) hu2
    have hel : e < s.heap.objs.size := Heap.lt_size he
    have hzl : z < s.heap.objs.size := Heap.lt_size hz
    have hTl : TO < s.heap.objs.size := Heap.lt_size hTO
    have hil : it < s.heap.objs.size := by
      rcases h1 with ⟨_, _, h1⟩ | ⟨_, _, _, h1⟩
      · obtain ⟨_, e1, _⟩ := h1; exact Heap.lt_size e1
      · obtain ⟨_, e1, _⟩ := h1; exact Heap.lt_size e1
    have hTe : s.TypeIs (.ref e) "enumerate" := ⟨_, he, rfl⟩
    -- what the inner turn leaves
    let R : Value → Heap → Prop := fun v h₁ => ∃ (x1 : Value) (T0 : Addr) (b1' : Bool), v = .ref s.heap.objs.size ∧ RelV xs[i] x1 ∧ IsPwB h₁ z it TO (rawInt T0) b1' u2 ∧ (∃ a b, IsPair h₁ TO a b) ∧ h₁.IsListIter it a (i + 2) ∧ IsPair h₁ s.heap.objs.size x1 u2 ∧ h₁.objs.size = s.heap.objs.size + 1 ∧
      (∀ c o, c ≠ z → c ≠ TO → c ≠ it → s.heap.get? c = some o → h₁.get? c = some o)
    have inner : ∀ (A' : Around) (E' : Value → Shared → Prop) (Q : Value → Shared → Prop), (∀ x h', R x h' → Q x { s with heap := h' }) → wpAny (model X.prog X.w) A' (Builtin.SmallTypes.nextOf (.ref z)) Q E' s := by
      intro A' E' Q hQ
      refine nextOf_pw hz ?_
      rcases h1 with ⟨rfl, rfl, h1⟩ | ⟨hi, co, ⟨x, hxx, rx⟩, h1⟩
      · exact pwb_first D.P hz hf0 hTO h1 p.isList (x := u) (y := u2) (by simpa using hu) (by simpa using hu2) fun h' T0 b1' a1 a2 a3 a4 a5 a6 => hQ _ h' ⟨u, T0, b1', rfl, ru, a1, a2, a3, a4, a5, a6⟩
      · rw [hx] at hxx
        cases hxx
        exact pwb_more D.P hz hf0 hTO h1 p.isList (co hlt) (y := u2) (by simpa using hu2) fun h' T0 b1' a1 a2 a3 a4 a5 a6 => hQ _ h' ⟨old, T0, b1', rfl, rx, a1, a2, a3, a4, a5, a6⟩
    unfold pyNext
    refine wpAny_bind (wpAny_attempt (wpAny_callSpecial?_slot (name := Str.ofString "__next__") hTe F.slot_enumerate_next
      (wpAny_call_entry F.slot_enumerate_next hTe F.entry_enumerate_next (enum_next_by (R := R) he (inner _ _) (fun v h₁ hr => ?_) fun v h₁ h' hr ho hT2 hsz2 hk2 => ?_) (F.args_enumerate_next_1 _))))
    · obtain ⟨x1, T0, b1', rfl, r1, a1, a2, a3, a4, a5, a6⟩ := hr
      exact a6 e _ D.ez D.eT D.ei he
    · obtain ⟨x1, T0, b1', rfl, r1, a1, ⟨pa, pb, a2⟩, a3, a4, a5, a6⟩ := hr
      refine wpAny_pure ⟨_, rfl, ?_⟩
      refine wpAny_letOwnedTupleGo_enum (s := { s with heap := h', toks := s.toks + 1 }) ho fun h'' he' sb => ?_
      -- the inner pair
      have hfz : ∀ b ∈ [z, TO, it], FpOk X pins H b := fun b hb => hf b (List.mem_cons_of_mem _ hb)
      have newT : ObjOk X.prog X.w (upd H s.heap.objs.size (.tup [xs[i], xs[i + 1]])) h₁ s.heap.objs.size (.tup [xs[i], xs[i + 1]]) :=
        ⟨by show 2 ≤ sizeLine; decide, [x1, u2], .cons r1 (.cons ru2 .nil), ⟨_, a4, rfl, _, rfl⟩⟩
      have I1 : Inv X pins σ (upd H s.heap.objs.size (.tup [xs[i], xs[i + 1]])) { s with heap := h₁ } :=
        I.turnedNew (t' := s.toks) (ch := [z, TO, it]) (fun c o hb q => a6 c o (fun q' => hb (by simp [q'])) (fun q' => hb (by simp [q'])) (fun q' => hb (by simp [q'])) q) hfz (Nat.le_refl _) newT
      -- the outer one
      have hTlt : s.heap.objs.size < h₁.objs.size := by omega
      have hel1 : e < h₁.objs.size := Nat.lt_trans hel hTlt
      have hU : h''.get? h₁.objs.size = some { cls := .type "tuple", data := .seq #[.int i s.toks, .ref s.heap.objs.size] } := (sb.2 _ (Nat.ne_of_gt hel1)).trans hT2
      have newU : ObjOk X.prog X.w (upd (upd H s.heap.objs.size (.tup [xs[i], xs[i + 1]])) h₁.objs.size (.tup [.int (i : Nat), .ref s.heap.objs.size])) h'' h₁.objs.size (.tup [.int (i : Nat), .ref s.heap.objs.size]) :=
        ⟨by show 2 ≤ sizeLine; decide, [.int i s.toks, .ref s.heap.objs.size], .cons ⟨_, rfl⟩ (.cons rfl .nil), ⟨_, hU, rfl, _, rfl⟩⟩
      have hfe : ∀ b ∈ [e], FpOk X pins (upd H s.heap.objs.size (.tup [xs[i], xs[i + 1]])) b := fun b hb => by
        rw [List.mem_singleton.mp hb]
        obtain ⟨f0', f1⟩ := hf e (by simp)
        exact ⟨by rw [upd_ne (Nat.ne_of_lt hel)]; exact f0', f1⟩
      have I2 : Inv X pins σ (upd (upd H s.heap.objs.size (.tup [xs[i], xs[i + 1]])) h₁.objs.size (.tup [.int (i : Nat), .ref s.heap.objs.size])) { s with heap := h'', toks := s.toks + 1 } :=
        I1.turnedNew (ch := [e]) (fun c o hb q => (sb.2 c (fun q' => hb (by simp [q']))).trans (hk2 c o (fun q' => hb (by simp [q'])) q)) hfe (Nat.le_refl _) newU
      have hfresh : H s.heap.objs.size = none := I.hok.fresh (Nat.le_refl _)
      have hfreshU : upd H s.heap.objs.size (.tup [xs[i], xs[i + 1]]) h₁.objs.size = none := I1.hok.fresh (Nat.le_refl _)
      have keepz : ∀ c o, c ≠ e → h₁.get? c = some o → h''.get? c = some o := fun c o hc q => (sb.2 c hc).trans (hk2 c o hc q)
      refine ⟨.ref h₁.objs.size, _, I2, rfl, ⟨_, _, _, _, rfl, hfresh, hfreshU, rfl, hx, hy⟩, ⟨⟨.ref s.heap.objs.size, ?_⟩, ⟨pa, pb, keepz _ _ D.eT.symm a2⟩, rawInt T0, b1', u2, keepz _ _ D.ez.symm a1, .inr ⟨T0, rfl⟩, .inr ⟨Nat.succ_pos _, cu2, ⟨_, hy, ru2⟩, a3.at fun o q => keepz _ o D.ei.symm q⟩⟩, fun c hcm => ?_⟩
      · have e1 : ((i + 1 : Nat) : Int) = (i : Int) + 1 := by omega
        rw [e1]; exact he'
      · have hlt : c < s.heap.objs.size := by
          have e' : c = e ∨ c = z ∨ c = TO ∨ c = it := by simpa using hcm
          rcases e' with q | q | q | q
          · rw [q]; exact hel
          · rw [q]; exact hzl
          · rw [q]; exact hTl
          · rw [q]; exact hil
        rw [upd_ne (Nat.ne_of_lt (Nat.lt_trans hlt hTlt)), upd_ne (Nat.ne_of_lt hlt)]
        exact (hf c hcm).1
  done := by
    intro X hP hw hK hc i pins s σ H E I hf st hg
    subst hP hw hK
    obtain ⟨⟨eo, he⟩, ⟨x0, y0, hTO⟩, f0, b1, old, hz, hf0, h1⟩ := st
    obtain ⟨hq, hcl, hend⟩ := hg
    obtain ⟨its, rv, p, cls⟩ := clean_listI I hq hcl
    have hlen := rv.length
    have hTe : s.TypeIs (.ref e) "enumerate" := ⟨_, he, rfl⟩
    have hT0 : s.TypeIs (.ref z) "itertools.pairwise" := ⟨_, hz, rfl⟩
    have goal : ∀ h' y, (∀ c o, c ≠ z → c ≠ it → s.heap.get? c = some o → h'.get? c = some o) → (∃ o, h'.get? y = some o ∧ o.cls = .type "StopIteration") →
        wpAny (model X.prog X.w) X.A (do if ← isInstance (.ref y) (.type "StopIteration") then pure (none : Option Value) else throw (.ref y)) (fun r s1 => r = none ∧ Inv X pins σ H s1) E { s with heap := h' } := by
      intro h' y hk ⟨o, ho, hcl'⟩
      refine wpAny_bind (wpAny_isInstance (T := "StopIteration") (b := true) ⟨o, ho, hcl'⟩ isSubtype_stop ?_)
      exact wpAny_pure ⟨rfl, I.turnedL (t' := s.toks) (ch := [e, z, TO, it]) (fun c o hb q => hk c o (fun q' => hb (by simp [q'])) (fun q' => hb (by simp [q'])) q) hf⟩
    unfold pyNext
    refine wpAny_bind (wpAny_attempt (wpAny_callSpecial?_slot (name := Str.ofString "__next__") hTe F.slot_enumerate_next
      (wpAny_call_entry F.slot_enumerate_next hTe F.entry_enumerate_next ?_ (F.args_enumerate_next_1 _))))
    show wpAny _ _ (field (.ref e) 2 >>= _) _ _ _
    refine wpAny_bind (wpAny_field he rfl (x := .ref z) rfl ?_)
    unfold Builtin.SmallTypes.nextOf
    refine wpAny_bind (wpAny_bind (wpAny_callSpecial?_slot (name := Str.ofString "__next__") hT0 slot_pw_next (wpAny_call_entry slot_pw_next hT0 entry_pw_next ?_ (args_pw_next _))))
    have hin : X.A.in1.in1.handled = none := by simp [I.ok.hd hc]
    rcases h1 with ⟨rfl, rfl, h1⟩ | ⟨hi, co, ⟨x, hxx, rx⟩, h1⟩
    · exact pwb_end hin D.P hz h1 p.isList (.inl ⟨rfl, rfl, by rw [List.size_toArray]; omega⟩) fun h' y hk hy => goal h' y hk hy
    · exact pwb_end hin D.P hz h1 p.isList (.inr (by simp; omega)) fun h' y hk hy => goal h' y hk hy
  self := fun A i s Q E st h => let ⟨⟨_, he⟩, _⟩ := st; wpAny_pyIter_enum he h
def iEpw (K : PySem.W.Frag) (ta : TA) : TI := fun σ H R => ta σ H fun vs H1 => ∃ a xs, vs = [.ref a] ∧ SqL K H1 a xs ∧ R (Itep K a xs) H1
theorem pi_epw {X : Cx} {e : Expr} {ta : TA} {p pos p2 pos2 tpos : Pos} {elts : List Expr} {kk : Nat} (hge : Gl X "enumerate") (hme : X.mg "enumerate" = none) (hg : Gl X "pairwise") (hm : X.mg "pairwise" = some (.type "itertools.pairwise")) (ha : PA X [e] ta)
    (hs1 : starEach [.Call (.Name "pairwise" p2) [e] [] pos2] X.env = [(false, eval (.Call (.Name "pairwise" p2) [e] [] pos2) X.env)] := by rfl)
    (hs : starEach [e] X.env = (false, eval e X.env) :: starEach [] X.env := by rfl) (hpl : (backTo pos2 (starEach [] X.env)).any (·.1) = false := by rfl) :
    PI X (.Tuple elts kk tpos) (.Call (.Name "enumerate" p) [.Call (.Name "pairwise" p2) [e] [] pos2] [] pos) (iEpw X.K ta) := by
  refine ⟨fun pins s σ H R I h => ?_⟩
  refine Call_ (ld_blt I hge hme boot_enumerate (PyProof.Rows.callWith_type1 ?_ hs1 rfl))
  rw [hs1]
  show wpAny _ _ (spliced ((false, eval (.Call (.Name "pairwise" p2) [e] [] pos2) X.env) :: [])) _ _ s
  refine Calls.spliced_cons ?_
  refine wpAny_Call_Name_kw (ld_glob I hg hm (PyProof.Rows.callWith_type1 (thn (ha.run pos2 pins s σ H _ I h) fun us s1 ⟨vs, H1, I1, r1, q1⟩ => ?_) hs hpl))
  obtain ⟨a, xs, ex, hqx, q⟩ := q1
  subst ex
  cases r1 with
  | cons r rr =>
    cases rr
    cases r
    obtain ⟨its, rv, p1, _⟩ := I1.list hqx
    have la : a < s1.heap.objs.size := p1.lt
    refine call_pw p1.isList fun h' hz hTO h1 hsz hk => Calls.spliced_nil ?_
    have hzB : IsPwB h' (s1.heap.objs.size + 2) s1.heap.objs.size (s1.heap.objs.size + 1) .none false (.int 0 0) := hz
    refine call_enumerate_pw (s := { s1 with heap := h' }) hzB fun h2 he hsz2 hk2 => wpAny_pyIter_enum he ?_
    have sz2 : h'.objs.size = s1.heap.objs.size + 3 := hsz
    have I2 : Inv X pins σ H1 { s1 with heap := h2 } := I1.kept (t' := s1.toks) fun c o e => hk2 c o (hk c o e)
    have D : PwApart (s1.heap.objs.size + 2) (s1.heap.objs.size + 1) s1.heap.objs.size a :=
      ⟨Nat.ne_of_lt (Nat.lt_succ_self _), Nat.ne_of_lt (Nat.lt_succ_of_lt (Nat.lt_succ_self _)), Nat.ne_of_lt (Nat.lt_succ_of_lt (Nat.lt_succ_of_lt la)), Nat.succ_ne_self _, Nat.ne_of_lt (Nat.lt_succ_of_lt la), Nat.ne_of_lt la⟩
    have e0 : ({ s1 with heap := h' } : Shared).heap.objs.size = s1.heap.objs.size + 3 := hsz
    rw [e0] at he ⊢
    have D2 : EpApart (s1.heap.objs.size + 3) (s1.heap.objs.size + 2) (s1.heap.objs.size + 1) s1.heap.objs.size a :=
      ⟨D, Nat.succ_ne_self _, Nat.ne_of_gt (Nat.lt_succ_of_lt (Nat.lt_succ_self _)), Nat.ne_of_gt (Nat.lt_succ_of_lt (Nat.lt_succ_of_lt (Nat.lt_succ_self _))), Nat.ne_of_lt (Nat.lt_succ_of_lt (Nat.lt_succ_of_lt (Nat.lt_succ_of_lt la)))⟩
    refine ⟨s1.heap.objs.size + 3, [s1.heap.objs.size + 3, s1.heap.objs.size + 2, s1.heap.objs.size + 1, s1.heap.objs.size], _, _, H1, rfl, I2, turn_ep D2, ⟨⟨_, he⟩, ⟨_, _, hk2 _ _ hTO⟩, .none, false, .int 0 0, hk2 _ _ hzB, .inl rfl, .inl ⟨rfl, rfl, h1.at fun o q => hk2 _ o q⟩⟩, fun c hcm => ?_, q⟩
    have e' : c = s1.heap.objs.size + 3 ∨ c = s1.heap.objs.size + 2 ∨ c = s1.heap.objs.size + 1 ∨ c = s1.heap.objs.size := by simpa using hcm
    have hle : s1.heap.objs.size ≤ c := by
      rcases e' with z | z | z | z
      · rw [z]; exact Nat.le_add_right _ _
      · rw [z]; exact Nat.le_add_right _ _
      · rw [z]; exact Nat.le_add_right _ _
      · rw [z]; exact Nat.le_refl _
    exact I1.fpOk hle (I1.hok.fresh hle)
/-! ### as walks -/
theorem walk_pw {K : PySem.W.Frag} {a : Addr} {xs : List V} : Walk (Itp K a xs) (xs.length - 1) (fun H => SqL K H a xs ∧ ClI K H a xs) (YPair (fun i => xs[i]?) fun i => xs[i + 1]?) :=
  ⟨fun i H hi g => ⟨g.1, g.2, by omega⟩, fun H g => ⟨g.1, g.2, by omega⟩, fun _ _ _ _ _ _ ⟨T, x, y, h1, h2, h3, h4, h5⟩ => ⟨T, x, y, h1, h2, h3, h4, h5⟩⟩
theorem walk_ep {K : PySem.W.Frag} {a : Addr} {xs : List V} : Walk (Itep K a xs) (xs.length - 1) (fun H => SqL K H a xs ∧ ClI K H a xs)
    (fun i H v H' => ∃ T U x y, v = .ref U ∧ H T = none ∧ upd H T (.tup [x, y]) U = none ∧ H' = upd (upd H T (.tup [x, y])) U (.tup [.int (i : Nat), .ref T]) ∧ xs[i]? = some x ∧ xs[i + 1]? = some y) :=
  ⟨fun i H hi g => ⟨g.1, g.2, by omega⟩, fun H g => ⟨g.1, g.2, by omega⟩, fun _ _ _ _ _ _ y => y⟩
end RFI
end
-- part KTab
section
set_option Elab.async false
set_option linter.all false
set_option maxRecDepth 100000
set_option maxHeartbeats 4000000
/-! Several code objects' tables at once; what a row is handed on as; comprehensions over neighbours. -/
namespace K1
open PySem PySem.Spec PyProof.Rows L2 RFI ZG
/-- but for these tables what stood stands -/
def SameT (Ts : List Addr) (H H' : Hp) : Prop := ∀ b o, b ∉ Ts → H b = some o → H' b = some o
def TabsG (H : Hp) (Ts : List Addr) : Prop := ∀ T ∈ Ts, GxR.TabG H T
section
variable {Ts : List Addr} {H H' H1 H2 : Hp} {K : PySem.W.Frag}
theorem SameT.refl : SameT Ts H H := fun _ _ _ e => e
theorem SameT.trans (a : SameT Ts H H1) (b : SameT Ts H1 H2) : SameT Ts H H2 := fun c o hc e => b c o hc (a c o hc e)
theorem sameT (h : Same H H') : SameT Ts H H' := fun b o _ e => h b o e
theorem TabsG.not {b : Addr} {o : HO} (t : TabsG H Ts) (h : H b = some o) (n : ∀ ps, o ≠ .tbl ps) : b ∉ Ts := fun hb => by
  obtain ⟨ps, e, _⟩ := t b hb
  rw [h] at e
  exact n ps (Option.some.inj e)
theorem TabsG.keep {b : Addr} {o : HO} (t : TabsG H Ts) (s : SameT Ts H H') (h : H b = some o) (n : ∀ ps, o ≠ .tbl ps) : H' b = some o := s b o (t.not h n) h
theorem TabsG.same (t : TabsG H Ts) (s : Same H H') : TabsG H' Ts := fun T hT => tab_same (t T hT) s
theorem tabbedT {T : Addr} (t : TabsG H Ts) (hT : T ∈ Ts) (h : GxR.Tabbed T H H') : SameT Ts H H' ∧ TabsG H' Ts := by
  refine ⟨fun b o hb e => (h.2 b fun z => hb (by rw [z]; exact hT)).trans e, fun U hU => ?_⟩
  by_cases e : U = T
  · rw [e]; exact h.1
  · obtain ⟨ps, e1, e2⟩ := t U hU
    exact ⟨ps, (h.2 U e).trans e1, e2⟩
theorem SameT.free {b : Addr} (s : SameT Ts H H') (t : TabsG H' Ts) (h : H' b = none) : H b = none := by
  cases e : H b with
  | none => rfl
  | some o =>
    exfalso
    by_cases hb : b ∈ Ts
    · obtain ⟨ps, e1, _⟩ := t b hb
      rw [h] at e1
      cases e1
    · have := s b o hb e
      rw [h] at this
      cases this
theorem sq_tabs {a : Addr} {xs : List V} (t : TabsG H Ts) (s : SameT Ts H H') (h : SqL K H a xs) : SqL K H' a xs := by
  rcases h with (h | ⟨o, h⟩) | h
  · exact .inl (.inl (t.keep s h (fun _ z => by cases z)))
  · exact .inl (.inr ⟨o, t.keep s h (fun _ z => by cases z)⟩)
  · exact .inr h
theorem cl_tabs {a : Addr} {xs : List V} (t : TabsG H Ts) (s : SameT Ts H H') (h : ClAt K H a xs) : ClAt K H' a xs := by
  rcases h with ⟨o, h | h, c⟩ | h
  · exact .inl ⟨o, .inl (t.keep s h (fun _ z => by cases z)), c⟩
  · exact .inl ⟨o, .inr h, c⟩
  · exact .inr h
theorem clI_tabs {a : Addr} {xs : List V} (t : TabsG H Ts) (s : SameT Ts H H') (h : ClI K H a xs) : ClI K H' a xs := by
  rcases h with ⟨o, h | h, c⟩ | h
  · exact .inl ⟨o, .inl (t.keep s h (fun _ z => by cases z)), c⟩
  · exact .inl ⟨o, .inr h, c⟩
  · exact .inr h
theorem clI_same {a : Addr} {xs : List V} (h : ClI K H a xs) (s : Same H H') : ClI K H' a xs := by
  rcases h with ⟨o, h | h, c⟩ | h
  · exact .inl ⟨o, .inl (s _ _ h), c⟩
  · exact .inl ⟨o, .inr h, c⟩
  · exact .inr h
theorem same_refl : Same H H := fun _ _ e => e
end
/-- a list comprehension over a list's neighbours -/
theorem lc_nb {K : PySem.W.Frag} {f : Int → Int → V} {a D : Addr} {ns : List Int} {H1 : Hp} {i1 i2 : Nat} {te : TE} {vs : List Nat} {σ : L2.St} {Qd : Hp → Prop} (hnl : ns.length ≤ 500) (hA : SqL K H1 a (ns.map V.int)) (hC : ClI K H1 a (ns.map V.int)) (nD : H1 D = none)
    (hw : ∀ x y : V, wipe (((wipe σ vs).set i1 (some x)).set i2 (some y)) vs = wipe σ vs)
    (hs : ∀ (i : Nat) (x y : Int) (H4 : Hp) (Q : VK), ns[i]? = some x → ns[i + 1]? = some y → Same H1 H4 → (∀ H5, Same H4 H5 → Q (f x y) H5) → te (((wipe σ vs).set i1 (some (.int x))).set i2 (some (.int y))) H4 Q)
    (hd : ∀ H, Same H1 H → H D = some (.lst (nb f ns)) → Qd H) :
    ∃ W : Nat → Nat → Hp → Prop, (∃ m, W 0 m (upd H1 D (.lst []))) ∧ ∀ i m H, W i m H →
      ((Itp K a (ns.map V.int)).stop i H ∧ Qd H) ∨ ((Itp K a (ns.map V.int)).go i H ∧ ∃ Nx : Hp → Prop, (∀ H', Nx H' → ∃ m', m' < m ∧ W (i + 1) m' H') ∧ ∀ x H', (Itp K a (ns.map V.int)).yld i H x H' → gTup K 2 (gCons (gName i1) (gCons (gName i2) gNil)) x (wipe σ vs) H' fun σ2 H2 => wipe σ2 vs = wipe σ vs ∧ tYes σ2 H2 fun b H3 =>
        if b = true then te σ2 H3 fun y H4 => ∃ acc, H4 D = some (.lst acc) ∧ acc.length < sizeLine ∧ Nx (upd H4 D (.lst (acc ++ [y]))) else Nx H3) := by
  have hsm : (2000 : Nat) ≤ sizeLine := by decide
  refine lc_it walk_pw (fun j H5 => Same H1 H5 ∧ H5 D = some (.lst ((nb f ns).take j))) ⟨same_upd nD, by rw [upd_same]; rfl⟩ (fun j H5 _ hW => ⟨hW.1.seq hA, clI_same hC hW.1⟩) (fun j x H5 H6 hj hW y => ?_) (fun H5 hW => ?_)
  · obtain ⟨s5, hD⟩ := hW
    obtain ⟨T, x0, x1, rfl, nT, rfl, e0, e1⟩ := y
    obtain ⟨u, eu, rfl⟩ := map_get e0
    obtain ⟨v, ev, rfl⟩ := map_get e1
    have s6 := same_upd (o := .tup [.int u, .int v]) nT
    refine ⟨T, _, rfl, .inl (.inl upd_same), rfl, _, _, rfl, _, _, rfl, rfl, hw _ _, ?_⟩
    refine hs j u v _ _ eu ev (s5.trans s6) fun H7 s7 => ⟨_, s7 _ _ (s6 _ _ hD), ?_, ?_, ?_⟩
    · rw [List.length_take, nb_len]
      exact Nat.lt_of_lt_of_le (show min j (ns.length - 1) < 2000 by omega) hsm
    · intro b2 x2 e2
      rw [upd_ne (ne_of_none e2 nD)]
      exact s7 _ _ (s6 _ _ (s5 b2 x2 e2))
    · rw [upd_same, List.take_add_one, nb_get f ns j u v eu ev]
      rfl
  · obtain ⟨s5, hD⟩ := hW
    refine hd H5 s5 ?_
    rw [List.length_map, List.take_of_length_le (by rw [nb_len]; exact Nat.le_refl _)] at hD
    exact hD
section
variable {P : Program} {w : World} {K : PySem.W.Frag} {mg : Str → Option Value} {base : Heap}
/-- check_row's promise -/
def spCrT (K : PySem.W.Frag) (Ts : List Addr) : Sp := fun vs H Q _ => ∃ (a : Addr) (ns : List Int), vs = [.ref a] ∧ SqL K H a (ns.map V.int) ∧ TabsG H Ts ∧ ∀ H', SameT Ts H H' → TabsG H' Ts → Q .non H'
theorem crT {T fC : Addr} {fdC : FuncData} {Ts : List Addr} (hT : T ∈ Ts) {k : Nat} (G : FnOk P w K mg base CX0 k fC fdC ["row"] (spCr K T)) : FnOk P w K mg base CX0 k fC fdC ["row"] (spCrT K Ts) :=
  G.imp fun vs H Q E ⟨a, ns, e, hS, t, q⟩ => ⟨a, ns, e, hS, t T hT, fun H' s' t' => q H' (fun b o hb e => s' b o (fun z => hb (by rw [z]; exact hT)) e) fun U hU => by
    by_cases z : U = T
    · rw [z]; exact t'
    · exact let ⟨ps, e1, e2⟩ := t U hU; ⟨ps, s' U _ z e1, e2⟩⟩
end
/-- a tracked list of clean numbers, by its object or by what they are -/
structure Cw (K : PySem.W.Frag) (H : Hp) (r : Addr) (rs : List Int) : Prop where
  rd : Rd H r (.lst (rs.map V.int))
  cl : ClAt K H r (rs.map V.int)
section
variable {K : PySem.W.Frag} {H H' : Hp} {r : Addr} {rs : List Int}
theorem Cw.sq (c : Cw K H r rs) : SqL K H r (rs.map V.int) := .inl c.rd
theorem Cw.frz {o : Obj} (h : H r = some (.frz o (.lst (rs.map V.int)))) (c : ClO o) : Cw K H r rs := ⟨.inr ⟨o, h⟩, .inl ⟨o, .inl h, c⟩⟩
theorem Cw.val (h : H r = some (.lst (rs.map V.int))) (c : ∀ x ∈ rs, x ≠ 0) : Cw K H r rs := ⟨.inl h, .inr fun x hx z => by
  obtain ⟨y, hy, e⟩ := List.mem_map.mp hx
  rw [z] at e
  exact c y hy (V.int.inj e)⟩
theorem Cw.there (c : Cw K H r rs) : ∃ u, H r = some u ∧ ∀ ps, u ≠ .tbl ps := by
  rcases c.rd with h | ⟨o, h⟩
  · exact ⟨_, h, fun _ z => by cases z⟩
  · exact ⟨_, h, fun _ z => by cases z⟩
theorem Cw.move (c : Cw K H r rs) (k : ∀ o, H r = some o → (∀ ps, o ≠ .tbl ps) → H' r = some o) : Cw K H' r rs := by
  refine ⟨?_, ?_⟩
  · rcases c.rd with h | ⟨o, h⟩
    · exact .inl (k _ h fun _ z => by cases z)
    · exact .inr ⟨o, k _ h fun _ z => by cases z⟩
  · rcases c.cl with ⟨o, h | h, q⟩ | h
    · exact .inl ⟨o, .inl (k _ h fun _ z => by cases z), q⟩
    · exact .inl ⟨o, .inr h, q⟩
    · exact .inr h
theorem Cw.same (c : Cw K H r rs) (s : Same H H') : Cw K H' r rs := c.move fun o h _ => s _ _ h
theorem Cw.tabs {Ts : List Addr} (c : Cw K H r rs) (t : TabsG H Ts) (s : SameT Ts H H') : Cw K H' r rs := c.move fun o h n => t.keep s h n
theorem Cw.ne {p : Addr} (c : Cw K H r rs) (h : H p = none) : p ≠ r := fun z => by
  obtain ⟨u, hu, _⟩ := c.there
  rw [z, hu] at h
  cases h
end
/-- a comprehension whose list's own object is known, over anything that is walked -/
theorem lcC_it {J : It} {n : Nat} {G : Hp → Prop} {Y : Nat → Hp → V → Hp → Prop} (w : Walk J n G Y) {g : TG} {tt : TT} {te : TE} {vs : List Nat} {σ : L2.St} {H1 : Hp} {D : Addr} {Qd : Hp → Prop} (Pv : Nat → Hp → Prop) (h0 : Pv 0 (upd H1 D (.ext (clL D [])))) (hG : ∀ i H, i ≤ n → Pv i H → G H)
    (hs : ∀ i x H H', i < n → Pv i H → Y i H x H' → g x (wipe σ vs) H' fun σ2 H2 => wipe σ2 vs = wipe σ vs ∧ tt σ2 H2 fun b H3 =>
      if b = true then te σ2 H3 fun y H4 => ∃ acc, H4 D = some (.ext (clL D acc)) ∧ acc.length < sizeLine ∧ Pv (i + 1) (upd H4 D (.ext (clL D (acc ++ [y])))) else Pv (i + 1) H3) (hd : ∀ H, Pv n H → Qd H) :
    ∃ W : Nat → Nat → Hp → Prop, (∃ m, W 0 m (upd H1 D (.ext (clL D [])))) ∧ ∀ i m H, W i m H →
      (J.stop i H ∧ Qd H) ∨ (J.go i H ∧ ∃ Nx : Hp → Prop, (∀ H', Nx H' → ∃ m', m' < m ∧ W (i + 1) m' H') ∧ ∀ x H', J.yld i H x H' → g x (wipe σ vs) H' fun σ2 H2 => wipe σ2 vs = wipe σ vs ∧ tt σ2 H2 fun b H3 =>
        if b = true then te σ2 H3 fun y H4 => ∃ acc, H4 D = some (.ext (clL D acc)) ∧ acc.length < sizeLine ∧ Nx (upd H4 D (.ext (clL D (acc ++ [y])))) else Nx H3) := by
  refine ⟨fun i m H => m = n - i ∧ i ≤ n ∧ Pv i H, ⟨n, by simp, Nat.zero_le _, h0⟩, ?_⟩
  rintro i m H ⟨rfl, hi, p⟩
  have gh := hG i H hi p
  by_cases hlt : i < n
  · exact .inr ⟨w.goes i H hlt gh, Pv (i + 1), fun H' p' => ⟨n - (i + 1), by omega, rfl, hlt, p'⟩, fun x H' y => hs i x H H' hlt p (w.yields i H x H' hlt gh y)⟩
  · have e : i = n := by omega
    subst e
    exact .inl ⟨w.stops H gh, hd H p⟩
section
variable {X : Cx}
/-- a list that is told by what its numbers are, from here on known by its object -/
def tFix (X : Cx) (u : TS) : TS := fun D σ H => ∃ (l : Addr) (xs : List V), H l = some (.lst xs) ∧ (∀ x ∈ xs, x ≠ V.int 0) ∧ ∀ o, ClO o → NF X l → u D σ (upd H l (.frz o (.lst xs)))
theorem pss_fix {rest : List Stmt} {u : TS} (h : PSs X rest u) : PSs X rest (tFix X u) := by
  refine ⟨fun pins s σ H D I ⟨l, xs, hl, hc, q⟩ => ?_⟩
  obtain ⟨z, its, n, r, e⟩ := I.hok l _ hl
  have cls : ∀ v ∈ its, Cl v := fun v hv => by
    obtain ⟨i, hi, ev⟩ := List.getElem_of_mem hv
    have hlen := r.length
    have hx : xs[i]? = some xs[i] := List.getElem?_eq_getElem (by omega)
    obtain ⟨u, hu, ru⟩ := r.get hx
    have eu : u = v := by
      rw [List.getElem?_eq_getElem hi] at hu
      rw [← ev]; exact (Option.some.inj hu).symm
    subst eu
    exact cl_int ru (hc _ (List.getElem_mem _))
  have nf : NF X l := fun o' u' e' => by
    have q := I.base.frzs l o' u' e'
    rw [hl] at q
    cases q
  have I2 : Inv X pins σ (upd H l (.frz { cls := .type "list", data := .seq its.toArray n } (.lst xs))) s := I.write (x := l) (e := l) (t' := s.toks) (h' := s.heap) (by rw [hl]; trivial) (.inl rfl) (fun b v _ q => q) ⟨_, e⟩ ⟨e, z, its, n, r, e⟩
  exact h.run pins s σ _ D I2 (q _ ⟨its.toArray, n, rfl, by simpa using cls⟩ nf)
end
end K1
end
-- part RStarI
section
set_option Elab.async false
set_option linter.all false
set_option maxRecDepth 100000
set_option maxHeartbeats 2000000
/-! [a, *xs, b], xs of clean items: all between the ends are clean. -/
namespace RFI
open PySem PySem.Spec PyProof.Rows L2
section
variable {X : Cx}
def tStarI (X : Cx) (ta te tb : TE) : TE := fun σ H Q => ta σ H fun x H1 => te σ H1 fun y H2 => ∃ a xs, y = V.ref a ∧ SqL X.K H2 a xs ∧ ClAt X.K H2 a xs ∧ tb σ H2 fun z H3 => xs.length + 2 ≤ sizeLine ∧ ∀ p o, H3 p = none → NF X p → ClIO o → Q (.ref p) (upd H3 p (.frz o (.lst (x :: (xs ++ [z])))))
theorem mid_clean {u0 u2 : Value} {its : List Value} (c : ∀ v ∈ its, Cl v) : ClIO { cls := .type "list", data := .seq (u0 :: (its ++ [u2])).toArray } := by
  refine ⟨_, _, rfl, fun i v h0 h1 hv => ?_⟩
  have hv' : (u0 :: (its ++ [u2]))[i]? = some v := by simpa using hv
  have h1' : i + 1 < its.length + 2 := by simpa using h1
  obtain ⟨j, rfl⟩ : ∃ j, i = j + 1 := ⟨i - 1, by omega⟩
  rw [List.getElem?_cons_succ, List.getElem?_append_left (by omega)] at hv'
  exact c v (List.mem_of_getElem? hv')
theorem pe_starI {a e b : Expr} {ta te tb : TE} {p pos : Pos} (ha : PE X a ta) (he : PE X e te) (hb : PE X b tb)
    (h1 : starEach [a, .Starred e p, b] X.env = (false, eval a X.env) :: starEach [.Starred e p, b] X.env := by rfl) (h2 : starEach (.Starred e p :: [b]) X.env = (true, eval e X.env) :: starEach [b] X.env := by rfl) (h3 : starEach [b] X.env = [(false, eval b X.env)] := by rfl) :
    PE X (.List [a, .Starred e p, b] pos) (tStarI X ta te tb) := by
  refine ⟨fun pins s σ H Q I h => ?_⟩
  refine wpAny_List_spliced ?_
  rw [h1]
  show wpAny _ _ (spliced ((false, eval a X.env) :: backTo pos (starEach [.Starred e p, b] X.env))) _ _ s
  refine Calls.spliced_cons (thn (ha.run pins s σ H _ I h) fun u0 s1 ⟨x, H1, I1, r1, q1⟩ => ?_)
  refine PySem.W.items_star (thn (he.run pins s1 σ H1 _ I1 q1) fun v s2 ⟨y, H2, I2, r2, q2⟩ => ?_) h2
  obtain ⟨l, xs, rfl, hS, hC, q2⟩ := q2
  obtain rfl : v = Value.ref l := r2
  obtain ⟨its, r, pl, cls⟩ := clean_list I2 hS hC
  obtain ⟨_, _, _, hz⟩ := I2.list hS
  have hl := r.length
  obtain ⟨o, ho, hc, n, hd⟩ := pl.isList
  have hT : s2.TypeIs (.ref l) "list" := ⟨o, ho, hc⟩
  -- behind the star
  have rest : ∀ s3, Inv X pins σ H2 s3 → wpAny (model X.prog X.w) X.A (spliced (backTo pos (starEach [b] X.env))) (fun vs s₁ => (u0 :: (its ++ vs)).length ≤ sizeLine ∧ EP X pins σ Q (.ref s₁.heap.objs.size) { s₁ with heap := s₁.heap.push { cls := .type "list", data := .seq (u0 :: (its ++ vs)).toArray } }) X.xe s3 := by
    intro s3 I3
    rw [h3]
    show wpAny _ _ (spliced ((false, eval b X.env) :: [])) _ _ s3
    refine Calls.spliced_cons (thn (hb.run pins s3 σ H2 _ I3 q2) fun u2 s4 ⟨z, H4, I4, r4, hlen, q4⟩ => Calls.spliced_nil ⟨by simp; omega, ?_⟩)
    have hf : H4 s4.heap.objs.size = none := I4.hok.fresh (Nat.le_refl _)
    have rr : Vals (x :: (xs ++ [z])) (u0 :: (its ++ [u2])) := .cons r1 (r.append (.cons r4 .nil))
    have new : ObjOk X.prog X.w (upd H4 s4.heap.objs.size (.frz { cls := .type "list", data := .seq (u0 :: (its ++ [u2])).toArray } (.lst (x :: (xs ++ [z]))))) (s4.heap.push { cls := .type "list", data := .seq (u0 :: (its ++ [u2])).toArray }) s4.heap.objs.size (.frz { cls := .type "list", data := .seq (u0 :: (its ++ [u2])).toArray } (.lst (x :: (xs ++ [z])))) :=
      ⟨Heap.get?_push_size _ rfl, by simp; omega, _, 0, rr, Heap.get?_push_size _ rfl⟩
    exact ⟨.ref s4.heap.objs.size, _, I4.laid (t' := s4.toks) (fun b u e => Heap.get?_push_of_some _ e) (Nat.le_refl _) new, rfl, q4 _ _ hf (nf_of I4 hf) (mid_clean cls)⟩
  have z : wpAny (model X.prog X.w) X.A (collect (.ref l)) (fun here s₃ => wpAny (model X.prog X.w) X.A (spliced (backTo pos (starEach [b] X.env))) (fun vs s₁ => (u0 :: (here ++ vs)).length ≤ sizeLine ∧ EP X pins σ Q (.ref s₁.heap.objs.size) { s₁ with heap := s₁.heap.push { cls := .type "list", data := .seq (u0 :: (here ++ vs)).toArray } }) X.xe s₃) X.xe s2 := by
    refine wpAny_collect_seq l (.inl rfl) ho hc hd (fun h' hk => ?_) (by rw [List.size_toArray]; omega)
    have e : its.toArray.toList = its := by simp
    rw [e]
    exact rest _ (I2.kept (t' := s2.toks) hk)
  unfold PySem.W.StarOf notIterableAtAll
  exact wpAny_bind (wpAny_specialOf hT PySem.F.slot_list_iter.lookup (wpAny_pure ⟨rfl, z⟩))
end
end RFI
end
-- part RTok
section
set_option Elab.async false
set_option linter.all false
set_option maxRecDepth 100000
set_option maxHeartbeats 2000000
/-! While a token is out: lists that are written out, their numbers told apart from pairwise's mark. -/
namespace RFI
open PySem PySem.Spec PyProof.Rows L2
section
variable {X : Cx}
theorem noxT {st : List Stmt} {t : TS} (h : PSsT X.nox st t) : PSsT X st t := fun pins s σ H D h1 I hw =>
  wpAny_mono (h pins s σ H D h1 (I.wish _) hw) (fun _ _ q => q.unwish) fun _ _ z => False.elim z
/-- an expression whose value is a clean one while a token is out -/
def PEf (X : Cx) (e : Expr) (t : TE) : Prop :=
  ∀ (pins : List (Addr × Obj)) (s : Shared) (σ : L2.St) (H : Hp) (Q : VK), 1 ≤ s.toks → Inv X pins σ H s → t σ H Q → wpAny (model X.prog X.w) X.A (eval e X.env) (fun u s' => Cl u ∧ EP X pins σ Q u s') X.xe s
theorem PEc.f {e : Expr} {t : TE} (h : PEc X e t) : PEf X e t := fun pins s σ H Q _ I q => h.run pins s σ H Q I q
theorem PEf.t {e : Expr} {t : TE} (h : PEf X e t) : PET X e t := fun pins s σ H Q h1 I q => thn (h pins s σ H Q h1 I q) fun _ _ z => z.2
theorem pef_int {i : Int} {j : Nat} {pos : Pos} : PEf X (.Constant (.int i) j pos) (tC (.int i)) := fun _ s _ H _ h1 I h => wpAny_Constant_int ⟨cl_tok1 h1, .int i, H, I.tok _, ⟨_, rfl⟩, h⟩
theorem pef_op {a b : Expr} {ta tb : TE} {pos : Pos} {op : Operator} {r : R2} (ho : OpC X (binaryOp op) r) (ha : PE X a ta) (hb : PE X b tb) : PEf X (.BinOp a op b pos) (tOp r ta tb) := fun pins s σ H Q h1 I h => by
  refine wpAny_BinOp (PySem.wpAny_with_toks h1 (wpAny_mono (ha.run pins s σ H _ I h) (fun v s1 z t1 => ?_) fun _ _ z _ => z))
  obtain ⟨x, H1, I1, r1, q1⟩ := z
  refine PySem.wpAny_with_toks t1 (wpAny_mono (hb.run pins s1 σ H1 _ I1 q1) (fun u s2 z t2 => ?_) fun _ _ z _ => z)
  obtain ⟨y, H2, I2, r2, q2⟩ := z
  exact thn (ho pins s2 σ H2 x y v u Q I2 r1 r2 q2) fun w s3 z => ⟨z.1 t2, z.2.2⟩
/-- a value that is known not to be 0 -/
def tNz (te : TE) : TE := fun σ H Q => te σ H fun x H1 => x ≠ .int 0 ∧ Q x H1
theorem pec_nz {e : Expr} {te : TE} (h : PE X e te) : PEc X e (tNz te) := ⟨fun pins s σ H Q I q => thn (h.run pins s σ H _ I q) fun u s1 ⟨x, H1, I1, r, n, q1⟩ => ⟨cl_int r n, x, H1, I1, r, q1⟩⟩
/-- written items, each clean -/
def PAf (X : Cx) (es : List Expr) (t : TA) : Prop :=
  ∀ (pos : Pos) (pins : List (Addr × Obj)) (s : Shared) (σ : L2.St) (H : Hp) (Q : List V → Hp → Prop), 1 ≤ s.toks → Inv X pins σ H s → t σ H Q → wpAny (model X.prog X.w) X.A (spliced (backTo pos (starEach es X.env))) (fun us s' => (∀ u ∈ us, Cl u) ∧ AP X pins σ Q us s') X.xe s
theorem paf_nil : PAf X [] tNil := fun _ _ _ _ H Q _ I h => Calls.spliced_nil ⟨fun _ z => (by cases z), [], H, I, .nil, h⟩
theorem paf_cons {e : Expr} {es : List Expr} {te : TE} {ta : TA} (ha : PEf X e te) (hr : PAf X es ta) (hs : starEach (e :: es) X.env = (false, eval e X.env) :: starEach es X.env := by rfl) : PAf X (e :: es) (tCons te ta) := by
  intro pos pins s σ H Q h1 I h
  rw [hs]
  show wpAny _ _ (spliced ((false, eval e X.env) :: backTo pos (starEach es X.env))) _ _ s
  refine Calls.spliced_cons (PySem.wpAny_with_toks h1 (wpAny_mono (ha pins s σ H _ h1 I h) (fun v s1 z t1 => ?_) fun _ _ z _ => z))
  obtain ⟨cv, x, H1, I1, r1, q1⟩ := z
  exact thn (hr pos pins s1 σ H1 _ t1 I1 q1) fun us s2 ⟨c, xs, H2, I2, r2, q2⟩ => ⟨fun u hu => (List.mem_cons.mp hu).elim (fun e => e ▸ cv) (c u), x :: xs, H2, I2, .cons r1 r2, q2⟩
/-- the same, whatever is out -/
def PAc (X : Cx) (es : List Expr) (t : TA) : Prop :=
  ∀ (pos : Pos) (pins : List (Addr × Obj)) (s : Shared) (σ : L2.St) (H : Hp) (Q : List V → Hp → Prop), Inv X pins σ H s → t σ H Q → wpAny (model X.prog X.w) X.A (spliced (backTo pos (starEach es X.env))) (fun us s' => (∀ u ∈ us, Cl u) ∧ AP X pins σ Q us s') X.xe s
theorem pac_nil : PAc X [] tNil := fun _ _ _ _ H Q I h => Calls.spliced_nil ⟨fun _ z => (by cases z), [], H, I, .nil, h⟩
theorem pac_cons {e : Expr} {es : List Expr} {te : TE} {ta : TA} (ha : PEc X e te) (hr : PAc X es ta) (hs : starEach (e :: es) X.env = (false, eval e X.env) :: starEach es X.env := by rfl) : PAc X (e :: es) (tCons te ta) := by
  intro pos pins s σ H Q I h
  rw [hs]
  show wpAny _ _ (spliced ((false, eval e X.env) :: backTo pos (starEach es X.env))) _ _ s
  refine Calls.spliced_cons (thn (ha.run pins s σ H _ I h) fun v s1 ⟨cv, x, H1, I1, r1, q1⟩ => ?_)
  exact thn (hr pos pins s1 σ H1 _ I1 q1) fun us s2 ⟨c, xs, H2, I2, r2, q2⟩ => ⟨fun u hu => (List.mem_cons.mp hu).elim (fun e => e ▸ cv) (c u), x :: xs, H2, I2, .cons r1 r2, q2⟩
/-- a written list of clean items, its object known -/
def tLstC (X : Cx) (ta : TA) : TE := fun σ H Q => ta σ H fun xs H1 => xs.length ≤ sizeLine ∧ NewC X xs H1 Q
theorem lstC_end {pins : List (Addr × Obj)} {σ : L2.St} {H1 : Hp} {s1 : Shared} {xs : List V} {us : List Value} {Q : VK} (I1 : Inv X pins σ H1 s1) (r : Vals xs us) (c : ∀ u ∈ us, Cl u) (z : xs.length ≤ sizeLine) (q : NewC X xs H1 Q) :
    us.length ≤ sizeLine ∧ EP X pins σ Q (.ref s1.heap.objs.size) { s1 with heap := s1.heap.push { cls := .type "list", data := .seq us.toArray } } :=
  ⟨by rw [← r.length]; exact z, newC_at (t' := s1.toks) I1 (fun b ob e => Heap.get?_push_of_some _ e) (Nat.le_refl _) z r c (Heap.get?_push_size _ rfl) q⟩
theorem pet_lstC {es : List Expr} {ta : TA} {pos : Pos} (h : PAf X es ta) : PET X (.List es pos) (tLstC X ta) := fun pins s σ H Q h1 I hq =>
  wpAny_List_spliced (thn (h pos pins s σ H _ h1 I hq) fun us s1 ⟨c, xs, H1, I1, r, z, q⟩ => lstC_end I1 r c z q)
theorem pe_lstC {es : List Expr} {ta : TA} {pos : Pos} (h : PAc X es ta) : PE X (.List es pos) (tLstC X ta) := ⟨fun pins s σ H Q I hq =>
  wpAny_List_spliced (thn (h pos pins s σ H _ I hq) fun us s1 ⟨c, xs, H1, I1, r, z, q⟩ => lstC_end I1 r c z q)⟩
/-- [a, *xs, b] -/
def tStarC (X : Cx) (ta te tb : TE) : TE := fun σ H Q => ta σ H fun x H1 => te σ H1 fun y H2 => ∃ a xs, y = V.ref a ∧ SqL X.K H2 a xs ∧ ClAt X.K H2 a xs ∧ tb σ H2 fun z H3 => xs.length + 2 ≤ sizeLine ∧ NewC X (x :: (xs ++ [z])) H3 Q
theorem pet_starC {a e b : Expr} {ta te tb : TE} {p pos : Pos} (ha : PEf X a ta) (he : PE X e te) (hb : PEc X b tb)
    (h1 : starEach [a, .Starred e p, b] X.env = (false, eval a X.env) :: starEach [.Starred e p, b] X.env := by rfl) (h2 : starEach (.Starred e p :: [b]) X.env = (true, eval e X.env) :: starEach [b] X.env := by rfl) (h3 : starEach [b] X.env = [(false, eval b X.env)] := by rfl) :
    PET X (.List [a, .Starred e p, b] pos) (tStarC X ta te tb) := by
  intro pins s σ H Q h0 I h
  refine wpAny_List_spliced ?_
  rw [h1]
  show wpAny _ _ (spliced ((false, eval a X.env) :: backTo pos (starEach [.Starred e p, b] X.env))) _ _ s
  refine Calls.spliced_cons (thn (ha pins s σ H _ h0 I h) fun u0 s1 ⟨c0, x, H1, I1, r1, q1⟩ => PySem.W.items_star (thn (he.run pins s1 σ H1 _ I1 q1) fun v s2 ⟨y, H2, I2, r2, q2⟩ => ?_) h2)
  obtain ⟨l, xs, rfl, hS, hC, q2⟩ := q2
  cases r2
  obtain ⟨its, r, pl, cls⟩ := clean_list I2 hS hC
  obtain ⟨_, _, _, hz⟩ := I2.list hS
  have hl := r.length
  obtain ⟨o, ho, hc, n, hd⟩ := pl.isList
  have tail : ∀ s3, Inv X pins σ H2 s3 → wpAny (model X.prog X.w) X.A (spliced (backTo pos (starEach [b] X.env))) (fun vs s₁ => (u0 :: (its ++ vs)).length ≤ sizeLine ∧ EP X pins σ Q (.ref s₁.heap.objs.size) { s₁ with heap := s₁.heap.push { cls := .type "list", data := .seq (u0 :: (its ++ vs)).toArray } }) X.xe s3 := by
    intro s3 I3
    rw [h3]
    show wpAny _ _ (spliced ((false, eval b X.env) :: [])) _ _ s3
    refine Calls.spliced_cons (thn (hb.run pins s3 σ H2 _ I3 q2) fun u2 s4 ⟨c2, z, H4, I4, r4, hlen, q4⟩ => Calls.spliced_nil ?_)
    have rr : Vals (x :: (xs ++ [z])) (u0 :: (its ++ [u2])) := .cons r1 (r.append (.cons r4 .nil))
    exact lstC_end I4 rr (fun u hu => by
      rcases List.mem_cons.mp hu with e | hu
      · rw [e]; exact c0
      · rcases List.mem_append.mp hu with hu | hu
        · exact cls u hu
        · rw [List.mem_singleton.mp hu]; exact c2) (by simp; omega) q4
  have z : wpAny (model X.prog X.w) X.A (collect (.ref l)) (fun here s₃ => wpAny (model X.prog X.w) X.A (spliced (backTo pos (starEach [b] X.env))) (fun vs s₁ => (u0 :: (here ++ vs)).length ≤ sizeLine ∧ EP X pins σ Q (.ref s₁.heap.objs.size) { s₁ with heap := s₁.heap.push { cls := .type "list", data := .seq (u0 :: (here ++ vs)).toArray } }) X.xe s₃) X.xe s2 := by
    refine wpAny_collect_seq l (.inl rfl) ho hc hd (fun h' hk => ?_) (by rw [List.size_toArray]; omega)
    have e : its.toArray.toList = its := by simp
    rw [e]
    exact tail _ (I2.kept (t' := s2.toks) hk)
  have hT : s2.TypeIs (.ref l) "list" := ⟨o, ho, hc⟩
  unfold PySem.W.StarOf notIterableAtAll
  exact wpAny_bind (wpAny_specialOf hT PySem.F.slot_list_iter.lookup (wpAny_pure ⟨rfl, z⟩))
/-! ### statements and calls -/
theorem PAT.of {es : List Expr} {ta : TA} (h : PA X es ta) : PAT X es ta := fun pos pins s σ H Q _ I q => h.run pos pins s σ H Q I q
theorem pst_set {i : Nat} {x : Str} {e : Expr} {te : TE} {pos pos' : Pos} (hN : X.N.Nodup) (hi : X.N[i]? = some x) (hx : Loc X.env.scope x) (he : PET X e te) (hs : swapsWith e (some (.Name x pos')) pos.line X.env = pure false := by rfl) (hf : X.fn x = true ∨ X.env.scope.names.lookup x = some .local := by first | exact .inl rfl | exact .inr rfl | assumption) :
    PST X (.Assign [.Name x pos'] e pos) (tAsg te (gName i)) := fun pins s σ H D h1 I h =>
  wpAny_Assign_Name (thn (he pins s σ H _ h1 I h) fun v s1 ⟨y, H1, I1, r1, q1⟩ => store_ok I1 hN hi hx r1 (fun s2 I2 => ⟨_, H1, I2, q1⟩) hf) hs
section
variable {CX : CXT} {k : Nat} {f C : Addr} {fd : FuncData} {ps : List Str} {sp : Sp} {dvs : List V} {ds : List Value} {E : XK} {x : Str} {p pos : Pos} {e : Expr} {es : List Expr} {t : TA}
theorem pet_make (M : Mk X.K C f) (F : FnOk X.prog X.w X.K X.mg X.base CX k f fd ps sp) (hr : Room (k + 1) X.A) (hg : Gl X x) (hm : X.mg x = some (.ref C)) (hb : Binds X.K fd ps ds) (hd : Vals dvs ds) (hx : Passes CX X E)
    (ha : PAT X (e :: es) t) (hdb : (x == ("__debug__" : Str)) = false := by decide) (he : starEach (e :: es) X.env = (false, eval e X.env) :: starEach es X.env := by rfl) (hpl : (backTo pos (starEach es X.env)).any (·.1) = false := by rfl) :
    PET X (.Call (.Name x p) (e :: es) [] pos) (tMake C sp dvs E t) := fun pins s σ H Q h1 I h =>
  wpAny_Call_Name_kw (ld_glob I hg hm (PySem.W.callWith_K (h₀ := X.base) I.ok.mod.kin M.kp (thn (ha pos pins s σ H _ h1 I h) fun us s1 ⟨vs, H1, I1, r, q⟩ => ⟨I1.kIn, run_make M F hr hb hd hx I1 r q⟩) he hpl) hdb)
theorem pet_call (F : FnOk X.prog X.w X.K X.mg X.base CX k f fd ps sp) (hr : Room k X.A) (hg : Gl X x) (hm : X.mg x = some (.ref f)) (hk : PySem.W.keepIn X.K (.ref f) = true) (hb : Binds X.K fd ps ds) (hd : Vals dvs ds) (hx : Passes CX X E)
    (ha : PAT X (e :: es) t) (hdb : (x == ("__debug__" : Str)) = false := by decide) (he : starEach (e :: es) X.env = (false, eval e X.env) :: starEach es X.env := by rfl) (hpl : (backTo pos (starEach es X.env)).any (·.1) = false := by rfl) :
    PET X (.Call (.Name x p) (e :: es) [] pos) (tCall sp dvs E t) := fun pins s σ H Q h1 I h =>
  wpAny_Call_Name_kw (ld_glob I hg hm (PySem.W.callWith_K (h₀ := X.base) I.ok.mod.kin hk (thn (ha pos pins s σ H _ h1 I h) fun us s1 ⟨vs, H1, I1, r, q⟩ => ⟨I1.kIn, run_fn F hr hb hd hx I1 r q⟩) he hpl) hdb)
end
/-- a tuple, a token out -/
theorem pet_tup {es : List Expr} {ta : TA} {pos : Pos} {x1} (h : PAT X es ta) : PET X (.Tuple es x1 pos) (tTup ta) := by
  intro pins s σ H Q h1 I hq
  refine wpAny_Tuple_spliced (thn (h pos pins s σ H _ h1 I hq) fun us s1 ⟨xs, H1, I1, r, z, q⟩ => ⟨by rw [← r.length]; exact z, ?_⟩)
  have hf : H1 s1.heap.objs.size = none := I1.hok.fresh (Nat.le_refl _)
  refine ⟨.ref s1.heap.objs.size, upd H1 s1.heap.objs.size (.tup xs), I1.laid (t' := s1.toks) (fun b u e => Heap.get?_push_of_some _ e) (Nat.le_refl _) ?_, rfl, q _ hf⟩
  exact ⟨z, us, r, IsTup.new s1.heap _⟩
end
section
variable {P : Program} {w : World} {K : PySem.W.Frag} {mg : Str → Option Value} {base : Heap}
/-- a def's body, a token out when it begins -/
theorem Fun.okK {x qual : Str} {st : Stmt} {f : Addr} {fd : FuncData} {N ps : List Str} {k : Nat} {sp : Sp} (F : Fun K x qual st f fd) (S : FnScope N ps (defScope st)) (hnc : ∀ y ∈ (defScope st).names, y.2 ≠ .cell) (hps : 1 ≤ ps.length) (len : ∀ vs H Q E, sp vs H Q E → vs.length = ps.length)
    (hbody : ∀ (cdv : Value) (A : Around) (outer : List Env) (s : Shared) (H : Hp) (vs : List V) (Q : VK) (E : XK), Room k (A.deeper (envOfC qual (defScope st) s.heap.objs.size f cdv)) → sp vs H Q E →
      ∃ t, PSsT (cxOf CX0 P w K mg base N qual (defScope st) f cdv A outer s H E).nox (defBody st) t ∧ t { nx := fun _ H' => Q .non H', rt := Q } (start N vs) H) : FnOk P w K mg base CX0 (k + 1) f fd ps sp := by
  obtain ⟨oc, od, kV, doc, pm, an, cdv, ct, osl, rfl, lk, hcd⟩ := F.ex
  refine fn_ofT lk hcd S hnc hps len fun A outer s H vs Q E hr hsp => ?_
  obtain ⟨t, h, q⟩ := hbody cdv A outer s H vs Q E hr hsp
  exact ⟨t, noxT h, q⟩
end
end RFI
namespace RFI
open PySem PySem.Spec PyProof.Rows L2
section
variable {X : Cx}
/-- list(xs): clean if xs is so -/
def rListE (X : Cx) : List V → Hp → VK → Prop := fun xs H Q => ∃ p ys, xs = [.ref p] ∧ SqL X.K H p ys ∧ ∀ q o, H q = none → NF X q → (ClAt X.K H p ys → ClO o) → Q (.ref q) (upd H q (.frz o (.lst ys)))
theorem call_listE : CallR X (.type "list") (rListE X) := by
  intro pins s σ H xs us Q I r h
  obtain ⟨p, ys, rfl, hq, q⟩ := h
  obtain ⟨u, rfl, rx⟩ := vals1 r
  cases rx
  obtain ⟨its, r', pl, hz⟩ := I.list hq
  have hlen := r'.length
  have cls : ClAt X.K H p ys → ∀ v ∈ its, Cl v := fun hc => by
    obtain ⟨its2, r2, pl2, c2⟩ := clean_list I hq hc
    obtain ⟨o1, n1, e1, _, _, d1⟩ := pl
    obtain ⟨o2, n2, e2, _, _, d2⟩ := pl2
    rw [e1] at e2
    cases e2
    have d5 := d1.symm.trans d2
    injection d5 with d3 _
    have d4 : its = its2 := by simpa using d3
    rw [d4]
    exact c2
  obtain ⟨o, ho, hcl, n, hd⟩ := pl.isList
  refine call_list_seq p (.inl rfl) ho hcl hd (fun h' c' kp e => ?_) (by simp only [List.size_toArray] <;> omega)
  have hf := I.hok.fresh (Nat.le_refl s.heap.objs.size)
  have new : ObjOk X.prog X.w (upd H s.heap.objs.size (.frz { cls := .type "list", data := .seq its.toArray c' } (.lst ys))) h' s.heap.objs.size (.frz { cls := .type "list", data := .seq its.toArray c' } (.lst ys)) := ⟨e, hz, its, c', r', e⟩
  exact ⟨.ref _, _, I.laid (t' := s.toks) kp (Nat.le_refl _) new, rfl, q _ _ hf (nf_of I hf) fun hc => ⟨its.toArray, c', rfl, by simpa using cls hc⟩⟩
end
end RFI
namespace RFI
open PySem PySem.Spec PyProof.Rows L2
section
variable {X : Cx}
theorem rd_same {H H' : Hp} {a : Addr} {u : HO} (r : Rd H a u) (s : Same H H') : Rd H' a u := by
  rcases r with h | ⟨o, h⟩
  · exact .inl (s _ _ h)
  · exact .inr ⟨o, s _ _ h⟩
/-- a list that is tracked, frozen or not: its items -/
theorem rd_its {pins : List (Addr × Obj)} {σ : L2.St} {H : Hp} {s : Shared} {l : Addr} {xs : List V} (I : Inv X pins σ H s) (hl : Rd H l (.lst xs)) : xs.length ≤ sizeLine ∧ ∃ (its : List Value) (n : Nat), Vals xs its ∧ s.heap.get? l = some { cls := .type "list", data := .seq its.toArray n } := by
  rcases hl with h | ⟨o, h⟩
  · obtain ⟨z, its, n, r, e⟩ := I.hok l _ h
    exact ⟨z, its, n, r, e⟩
  · obtain ⟨_, z, its, n, r, e⟩ := I.hok l _ h
    exact ⟨z, its, n, r, e⟩
/-- xs + ys of any two that are tracked -/
def rCatR : R2 := fun x y H Q => ∃ l b xs zs, x = .ref l ∧ y = .ref b ∧ Rd H l (.lst xs) ∧ Rd H b (.lst zs) ∧ xs.length + zs.length ≤ sizeLine ∧ ∀ p, H p = none → Q (.ref p) (upd H p (.lst (xs ++ zs)))
theorem op_catR : OpR X (binaryOp .Add) rCatR := fun pins s σ H x y v u Q I rx ry ⟨l, b, xs, zs, ex, ey, hH, hB, hz, q⟩ => by
  subst ex ey
  cases rx
  cases ry
  obtain ⟨_, its, n, r, e⟩ := rd_its I hH
  obtain ⟨_, its2, n2, r2, e2⟩ := rd_its I hB
  have z1 := r.length
  have z2 := r2.length
  refine PySem.P.add_list e e2 ?_ (by rw [List.size_toArray, List.size_toArray]; omega)
  rw [show its.toArray ++ its2.toArray = (its ++ its2).toArray by simp]
  exact ⟨V.ref _, _, I.lnew (t' := s.toks) (r.append r2) (by rw [List.length_append]; omega), rfl, q _ I.fresh⟩
/-- an argument behind which a token is out, then others -/
theorem pa_consG {e : Expr} {es : List Expr} {te : TE} {ta : TA} (ha : PEg X e te) (hr : PAT X es ta) (hs : starEach (e :: es) X.env = (false, eval e X.env) :: starEach es X.env := by rfl) : PA X (e :: es) (tCons te ta) := ⟨fun pos pins s σ H Q I h => by
  rw [hs]
  show wpAny _ _ (spliced ((false, eval e X.env) :: backTo pos (starEach es X.env))) _ _ s
  refine Calls.spliced_cons (thn (ha.run pins s σ H _ I h) fun v s1 ⟨t1, x, H1, I1, r1, q1⟩ => ?_)
  exact thn (hr pos pins s1 σ H1 _ t1 I1 q1) fun us s2 ⟨xs, H2, I2, r2, q2⟩ => ⟨x :: xs, H2, I2, .cons r1 r2, q2⟩⟩
/-- a written list of a first item behind which a token is out -/
theorem peg_lst {e : Expr} {es : List Expr} {te : TE} {ta : TA} {pos : Pos} (ha : PEg X e te) (hr : PA X es ta) (hs : starEach (e :: es) X.env = (false, eval e X.env) :: starEach es X.env := by rfl) : PEg X (.List (e :: es) pos) (tLst (tCons te ta)) := ⟨fun pins s σ H Q I h => by
  refine wpAny_List_spliced ?_
  rw [hs]
  show wpAny _ _ (spliced ((false, eval e X.env) :: backTo pos (starEach es X.env))) _ _ s
  refine Calls.spliced_cons (thn (ha.run pins s σ H _ I h) fun v s1 ⟨t1, x, H1, I1, r1, q1⟩ => ?_)
  refine PySem.wpAny_with_toks t1 (wpAny_mono (hr.run pos pins s1 σ H1 _ I1 q1) (fun us s2 w t2 => ?_) fun _ _ z _ => z)
  obtain ⟨xs, H2, I2, r2, z, q⟩ := w
  have rr : Vals (x :: xs) (v :: us) := .cons r1 r2
  refine ⟨by rw [← rr.length]; exact z, t2, ?_⟩
  have new : ObjOk X.prog X.w (upd H2 s2.heap.objs.size (.lst (x :: xs))) (s2.heap.push { cls := .type "list", data := .seq (v :: us).toArray }) s2.heap.objs.size (.lst (x :: xs)) := ⟨z, v :: us, 0, rr, Heap.get?_push_size _ rfl⟩
  exact ⟨.ref s2.heap.objs.size, _, I2.laid (t' := s2.toks) (fun b u e => Heap.get?_push_of_some _ e) (Nat.le_refl _) new, rfl, q _ (I2.hok.fresh (Nat.le_refl _))⟩⟩
/-- a list known by its object, from here on one that may change -/
def tOpen (X : Cx) (u : TS) : TS := fun D σ H => ∃ (l : Addr) (xs : List V) (o : Obj), H l = some (.frz o (.lst xs)) ∧ NF X l ∧ u D σ (upd H l (.lst xs))
theorem pss_open {rest : List Stmt} {u : TS} (h : PSs X rest u) : PSs X rest (tOpen X u) := ⟨fun pins s σ H D I ⟨_, _, _, hl, nf, q⟩ => h.run pins s σ _ D (I.unlock hl nf) q⟩
end
end RFI
end
-- part RLcT
section
set_option Elab.async false
set_option linter.all false
set_option maxRecDepth 100000
set_option maxHeartbeats 2000000
/-! A list comprehension while a token is out: its list is known by its object, its numbers are clean ones. -/
namespace RFI
open PySem PySem.Spec PyProof.Rows L2
section
variable {X : Cx} {pins : List (Addr × Obj)} {σ : L2.St} {H : Hp} {s : Shared}
theorem thnK {α : Type} {t : Sem α} {Q Q' : α → Shared → Prop} {M : Model} {A : Around} {E : Value → Shared → Prop} {s : Shared} (h1 : 1 ≤ s.toks) (h : wpAny M A t Q E s) (hQ : ∀ a s', 1 ≤ s'.toks → Q a s' → Q' a s') : wpAny M A t Q' E s :=
  PySem.wpAny_with_toks h1 (wpAny_mono h (fun a s' q k => hQ a s' k q) fun _ _ z _ => z)
theorem thnFK {α : Type} {t : Sem α} {Q Q' : α → Shared → Prop} {M : Model} {A : Around} {E : Value → Shared → Prop} {s : Shared} (h1 : 1 ≤ s.toks) (h : wpAny M A t Q (fun _ _ => False) s) (hQ : ∀ a s', 1 ≤ s'.toks → Q a s' → Q' a s') : wpAny M A t Q' E s :=
  PySem.wpAny_with_toks h1 (wpAny_mono h (fun a s' q k => hQ a s' k q) fun _ _ z _ => z.elim)
theorem lc_coreT {Q : VK} {elt tg iter : Expr} {ifs : List Expr} {scope : Scope} {own : List (Str × Nat)} {pos pos' : Pos} {wi : TI} {g : TG} {tt : TT} {te : TE} {use : Option (Value → Sem Unit)} {Qf : Value → Shared → Prop}
    (hc : X.calm = true) (hN : X.N.Nodup) (h1 : 1 ≤ s.toks) (I : Inv X pins σ H s) (hi : PI X tg iter wi) (ok : BlkOk X.N X.env.scope scope own)
    (hg : ∀ (s : Shared) (H : Hp) (C : Addr) (cl : List (Str × Addr)) (fp : List Addr), PG (X.blk s H scope (compEnvC scope cl C X.env) fp) tg g) (ht : ∀ (s : Shared) (H : Hp) (C : Addr) (cl : List (Str × Addr)) (fp : List Addr), PTs (X.blk s H scope (compEnvC scope cl C X.env) fp) ifs tt)
    (he : ∀ (s : Shared) (H : Hp) (C : Addr) (cl : List (Str × Addr)) (fp : List Addr), PEf (X.blk s H scope (compEnvC scope cl C X.env) fp) elt te) (hs : ∀ x, foldedSetIterable iter X.env x = pure x)
    (h : tLcC (NF X) wi g tt te (own.map (·.2)) σ H Q)
    (hRR : ∀ D C s' m H', Inv X pins σ H' s' → Q (.ref D) H' → s'.heap.Ns C m → FpOk X pins H' C → compPost (model X.prog X.w) X.A X.xe use Qf (.ref D) C (.ok .next) s') :
    wpAny (model X.prog X.w) X.A (comprehension (.ListComp elt [⟨tg, iter, ifs, 0⟩] scope pos) scope X.env pos' (newList []) false (eval iter X.env) use) Qf X.xe s := by
  have hfree : ∀ y ∈ scope.names, y.2 = .free → ∃ c, X.env.cells.lookup y.1 = some c := fun y hy e => by
    rcases ok.free y hy e with k | k
    · exact I.ok.has _ (.inl k)
    · exact I.ok.has _ (.inr k)
  refine wpAny_comprehension_free (use := use) rfl hs (closure_ok hfree) ok.kind (fun y hy e => by rw [ok.uniq y hy, e])
    (thnK h1 (hi.run pins s σ H _ I h) fun xv s1 t1 hx => thnK t1 hx fun itv s2 t2 h2 => ?_)
  obtain ⟨it, fp, tn, J, H2, e, I2, T, st2, f2, q⟩ := h2
  subst e
  refine wpAny_newObj_type (newEnv_comp ?_) (by show 0 ≤ sizeLine; decide)
  generalize hD : s2.heap.objs.size = D
  have hDn : H2 D = none := I2.hok.fresh (Nat.le_of_eq hD)
  have nf : NF X D := nf_of I2 hDn
  obtain ⟨W, ⟨m0, w0⟩, turn⟩ := q D hDn
  -- the new list
  generalize hs3 : ({ s2 with heap := s2.heap.push { cls := .type "list", data := .seq ([] : List Value).toArray } } : Shared) = s3
  have I3 : Inv X pins σ (upd H2 D (.ext (clL D []))) s3 := by
    rw [← hs3]
    refine I2.laid (t' := s2.toks) (fun b o e => Heap.get?_push_of_some _ e) (Nat.le_of_eq hD) (clL_ok ⟨Nat.zero_le _, [], 0, .nil, ?_, fun v hv => by cases hv⟩)
    rw [← hD]
    exact Heap.get?_push_size _ rfl
  have h3 : s3.heap = s2.heap.push { cls := .type "list", data := .seq ([] : List Value).toArray } := by rw [← hs3]
  have sz : ∀ b ∈ fp, b < s2.heap.objs.size := fun b hb => by
    obtain ⟨o, e, _⟩ := T.obj _ _ st2 b hb
    exact Heap.lt_size e
  have f3 : ∀ b ∈ fp, FpOk X pins (upd H2 D (.ext (clL D []))) b ∧ b < s3.heap.objs.size := fun b hb => by
    have hlt := sz b hb
    refine ⟨⟨?_, (f2 b hb).2⟩, by rw [h3, Heap.size_push]; exact Nat.lt_succ_of_lt hlt⟩
    rw [upd_ne (by rw [← hD]; exact Nat.ne_of_lt hlt)]
    exact (f2 b hb).1
  have st3 : tn 0 s3.heap := T.keep _ _ _ st2 fun b _ o e => by rw [h3]; exact Heap.get?_push_of_some _ e
  have t3 : 1 ≤ s3.toks := by rw [← hs3]; exact t2
  have I4 := block_start I3 ok hN f3
  have pg := hg s3 (upd H2 D (.ext (clL D []))) s3.heap.objs.size (cellsFrom (s3.heap.objs.size + 1) scope.names (cloFrom X.env.cells scope.names [])) fp
  have pt := ht s3 (upd H2 D (.ext (clL D []))) s3.heap.objs.size (cellsFrom (s3.heap.objs.size + 1) scope.names (cloFrom X.env.cells scope.names [])) fp
  have pe := he s3 (upd H2 D (.ext (clL D []))) s3.heap.objs.size (cellsFrom (s3.heap.objs.size + 1) scope.names (cloFrom X.env.cells scope.names [])) fp
  show codeAny _ _ (.compStart (.ListComp elt [⟨tg, iter, ifs, 0⟩] scope pos) 0 (.ref it) (.ref D) (compEnvC scope (cellsFrom (s3.heap.objs.size + 1) scope.names (cloFrom X.env.cells scope.names [])) s3.heap.objs.size X.env)) (compPost (model X.prog X.w) X.A X.xe use Qf (.ref D) s3.heap.objs.size) { s3 with heap := pushCells (s3.heap.push { cls := .type "dict", data := .dict #[] }) scope.names }
  have nfp : ∀ b ∈ fp, (upd H2 D (.ext (clL D []))) b = none := fun b hb => (f3 b hb).1.1
  generalize hce : compEnvC scope (cellsFrom (s3.heap.objs.size + 1) scope.names (cloFrom X.env.cells scope.names [])) s3.heap.objs.size X.env = ce at I4 pg pt pe ⊢
  have cL : ce.locals = s3.heap.objs.size := by subst hce; rfl
  generalize hH3 : upd H2 D (.ext (clL D [])) = H3 at I3 I4 pg pt pe w0 nfp f3
  generalize hs4 : ({ s3 with heap := pushCells (s3.heap.push { cls := .type "dict", data := .dict #[] }) scope.names } : Shared) = s4 at I4 ⊢
  have t4 : 1 ≤ s4.toks := by rw [← hs4]; exact t3
  have st4 : tn 0 s4.heap := T.keep _ _ _ st3 fun b _ o e => by rw [← hs4]; exact pushCells_keeps _ _ _ _ (Heap.get?_push_of_some _ e)
  have stat : ∀ {σ' : L2.St} {H' : Hp} {s' : Shared}, Inv (X.blk s3 H3 scope ce fp) [] σ' H' s' → (∀ b ∈ fp, H' b = none) → ∀ b ∈ fp, FpOk (X.blk s3 H3 scope ce fp) [] H' b := fun {σ' H' s'} I' hn b hb =>
    ⟨hn b hb, (I'.ok.exf b hb).1, I'.ok.exfs b hb, .inl hb, fun x c e => (I'.ok.exf b hb).2 x c e, fun p hp => absurd (show p ∈ ([] : List (Addr × Obj)) ++ [] from hp) (by simp)⟩
  have loop : codeAny (model X.prog X.w) X.A (.compLoop (.ListComp elt [⟨tg, iter, ifs, 0⟩] scope pos) 0 (.ref it) (.ref D) ce) (compPost (model X.prog X.w) X.A X.xe use Qf (.ref D) s3.heap.objs.size) s4 := by
    refine compLoop_any (fun n s' => ∃ i H', Inv (X.blk s3 H3 scope ce fp) [] (wipe σ (own.map (·.2))) H' s' ∧ (tn i s'.heap ∧ 1 ≤ s'.toks) ∧ (∀ b ∈ fp, H' b = none) ∧ W i n H') ?_ m0 ⟨0, H3, I4, ⟨st4, t4⟩, nfp, w0⟩
    rintro n s5 ⟨i, H5, I5, ⟨st5, t5⟩, n5, w5⟩
    rcases turn i n H5 w5 with ⟨stop, xs, hDx, qq⟩ | ⟨go, Nx, hNx, step⟩
    · have td := T.done (X.blk s3 H3 scope ce fp) rfl rfl rfl hc i [] s5 _ H5 (fun _ _ => False) I5 (stat I5 n5) st5 stop
      refine thnF td fun r s6 ⟨hr, I6⟩ => ?_
      subst hr
      -- back in the def's context
      have I7 : Inv X pins σ H5 s6 := I3.call' (ch := fp) I6.os I6.base I6.hok I6.bare fun b hb => ⟨(f3 b hb).1.2.2.2.1, (f3 b hb).1.2.1, (f3 b hb).1.2.2.2.2.1, (f3 b hb).1.2.2.2.2.2⟩
      have nC : H5 s3.heap.objs.size = none := by
        have z : H5 ce.locals = none := I6.free
        rw [cL] at z
        exact z
      obtain ⟨m, hn, _⟩ := I6.loc
      have hn : s6.heap.Ns ce.locals m := hn
      rw [cL] at hn
      obtain ⟨od, cod, I8⟩ := settle I7 hDx
      have nCD : s3.heap.objs.size ≠ D := fun z => by rw [z, hDx] at nC; cases nC
      exact hRR D s3.heap.objs.size s6 m _ I8 (qq od cod nf) hn (I3.fpOk (Nat.le_refl _) (by rw [upd_ne nCD]; exact nC))
    · have ti := T.item (X.blk s3 H3 scope ce fp) rfl rfl rfl hc i [] s5 _ H5 (fun _ _ => False) I5 (stat I5 n5) st5 go
      refine thnFK t5 ti fun r s6 t6 ⟨u, hr, h6⟩ => ?_
      subst hr
      refine thnFK t6 h6 fun _ s7 t7 ⟨x, H7, I7, r7, y7, st7, n7⟩ => ?_
      have I7' := I7.pinned (stat I7 n7) (T.obj _ _ st7)
      refine thnFK t7 (pg.run _ s7 _ H7 x u _ I7' r7 (step x H7 y7)) fun _ s8 t8 ⟨σ8, H8, I8, hw8, q8⟩ => ?_
      refine thnFK t8 (pt.run _ s8 σ8 H8 _ I8 q8) fun b s9 t9 ⟨H9, I9, q9⟩ => ?_
      -- the turn's end
      have fin : ∀ {s' : Shared} {H' : Hp}, Inv (X.blk s3 H3 scope ce fp) ([] ++ pinsAt fp s7.heap) σ8 H' s' → 1 ≤ s'.toks → Nx H' → ∃ m, m < n ∧ ∃ i H', Inv (X.blk s3 H3 scope ce fp) [] (wipe σ (own.map (·.2))) H' s' ∧ (tn i s'.heap ∧ 1 ≤ s'.toks) ∧ (∀ b ∈ fp, H' b = none) ∧ W i m H' := fun {s' H'} I' tk nx => by
        obtain ⟨m', hm, w'⟩ := hNx H' nx
        have pin' : ∀ b ∈ fp, ∀ o, s7.heap.get? b = some o → s'.heap.get? b = some o ∧ H' b = none := fun b hb o e =>
          let z := I'.pin (b, o) (List.mem_append_right _ (List.mem_append_right _ (mem_pinsAt hb e)))
          ⟨z.1, z.2.1⟩
        have hl : (wipe σ (own.map (·.2))).length = σ8.length := by rw [← hw8, wipe_length]
        refine ⟨m', hm, i + 1, H', (I'.unpinned (pins := [])).weak hl (fun j v e => ?_), ⟨T.keep _ _ _ st7 fun b hb o e => (pin' b hb o e).1, tk⟩, fun b hb => ?_, w'⟩
        · rw [← hw8] at e
          exact (wipe_some e).1
        · obtain ⟨o, e, _⟩ := T.obj _ _ st7 b hb
          exact (pin' b hb o e).2
      cases b with
      | false =>
        simp only [Bool.false_eq_true, if_false] at q9 ⊢
        exact fin I9 t9 q9
      | true =>
        simp only [if_true] at q9 ⊢
        refine thnFK t9 (pe _ s9 σ8 H9 _ t9 I9 q9) fun z s10 t10 ⟨zc, yv, H10, I10, r10, acc, hD10, hz10, nx⟩ => ?_
        exact PySem.wpAny_with_toks t10 (app_cl (X := X.blk s3 H3 scope ce fp) I10 hD10 hz10 r10 zc fun s11 I11 t11 => fin I11 t11 nx)
  exact codeAny_compStart_list loop (T.self X.A 0 _ _ _ st4 loop)
theorem pet_lcT {elt tg iter : Expr} {ifs : List Expr} {scope : Scope} {own : List (Str × Nat)} {pos : Pos} {wi : TI} {g : TG} {tt : TT} {te : TE} (hc : X.calm = true) (hN : X.N.Nodup) (hi : PI X tg iter wi) (ok : BlkOk X.N X.env.scope scope own)
    (hg : ∀ (s : Shared) (H : Hp) (C : Addr) (cl : List (Str × Addr)) (fp : List Addr), PG (X.blk s H scope (compEnvC scope cl C X.env) fp) tg g) (ht : ∀ (s : Shared) (H : Hp) (C : Addr) (cl : List (Str × Addr)) (fp : List Addr), PTs (X.blk s H scope (compEnvC scope cl C X.env) fp) ifs tt)
    (he : ∀ (s : Shared) (H : Hp) (C : Addr) (cl : List (Str × Addr)) (fp : List Addr), PEf (X.blk s H scope (compEnvC scope cl C X.env) fp) elt te) (hs : ∀ x, foldedSetIterable iter X.env x = pure x := by intro _; rfl) :
    PET X (.ListComp elt [⟨tg, iter, ifs, 0⟩] scope pos) (tLcC (NF X) wi g tt te (own.map (·.2))) := by
  intro pins s σ H Q h1 I h
  rw [eval_ListComp]
  refine lc_coreT hc hN h1 I hi ok hg ht he hs h fun D C s' m H' I' q hn ⟨f0, f1, f2, f3, f4, f5⟩ => ⟨m, hn, fun h'' sb => ?_⟩
  exact ⟨.ref D, H', I'.turned (t' := s'.toks) (fun b o hb e => (sb.2 b hb).trans e) f0 f1 f3 f4 f5, rfl, q⟩
end
end RFI
end
-- part RAccC
section
set_option Elab.async false
set_option linter.all false
set_option maxRecDepth 100000
set_option maxHeartbeats 2000000
/-! list(accumulate(xs)) of clean numbers while a token is out; xs[::-1] behind such. -/
namespace RFI
open PySem PySem.Spec PyProof.Rows L2
section
variable {X : Cx}
def tListAccC (X : Cx) (ta : TA) : TE := fun σ H Q => ta σ H fun vs H2 => ∃ (q : Addr) (ns : List Int), vs = [.ref q] ∧ SqL X.K H2 q (ns.map V.int) ∧ ClAt X.K H2 q (ns.map V.int) ∧ NewC X ((psum ns).map V.int) H2 Q
theorem pet_listAccC {e : Expr} {ta : TA} {p0 pos p pos2 : Pos} (hc : X.calm = true) (hgl : Gl X "list") (hml : X.mg "list" = none) (hg : Gl X "accumulate") (hm : X.mg "accumulate" = some (.type "itertools.accumulate")) (ha : PAT X [e] ta)
    (hs1 : starEach [.Call (.Name "accumulate" p) [e] [] pos2] X.env = (false, eval (.Call (.Name "accumulate" p) [e] [] pos2) X.env) :: starEach [] X.env := by rfl)
    (hp1 : (backTo pos (starEach [] X.env)).any (·.1) = false := by rfl) (hs : starEach [e] X.env = (false, eval e X.env) :: starEach [] X.env := by rfl) (hpl : (backTo pos2 (starEach [] X.env)).any (·.1) = false := by rfl) :
    PET X (.Call (.Name "list" p0) [.Call (.Name "accumulate" p) [e] [] pos2] [] pos) (tListAccC X ta) := by
  intro pins s σ H Q h1 I h
  refine wpAny_Call_Name_kw (ld_blt (u := .type "list") I hgl hml (by decide +kernel) (PyProof.Rows.callWith_type1 ?_ hs1 hp1))
  rw [hs1]
  show wpAny _ _ (spliced ((false, eval (.Call (.Name "accumulate" p) [e] [] pos2) X.env) :: backTo pos (starEach [] X.env))) _ _ s
  refine Calls.spliced_cons (wpAny_Call_Name_kw (ld_glob I hg hm (PyProof.Rows.callWith_type1 ?_ hs hpl)))
  refine PySem.wpAny_with_toks h1 (wpAny_mono (ha pos2 pins s σ H _ h1 I h) (fun us s3 z t3 => ?_) fun _ _ z _ => z)
  obtain ⟨vs, H2, I3, r3, q, ns, rfl, hq, hcl, q3⟩ := z
  obtain ⟨u, rfl, r⟩ := vals1 r3
  cases r
  obtain ⟨its, rv, pl, cls⟩ := clean_list I3 hq hcl
  obtain ⟨_, _, _, hsz⟩ := I3.list hq
  have hlen : its.length = ns.length := by rw [← rv.length, List.length_map]
  have hi : ∀ (i : Nat) (v : Value), its.toArray[i]? = some v → ∃ x t, ns[i]? = some x ∧ v = .int x t := fun i v hv => by
    have hv' : its[i]? = some v := by simpa using hv
    have hlt : i < ns.length := by have := (List.getElem?_eq_some_iff.mp hv').1; omega
    obtain ⟨u, hu, ru⟩ := rv.get (i := i) (x := V.int ns[i]) (by rw [List.getElem?_map, List.getElem?_eq_getElem hlt]; rfl)
    obtain ⟨t, rfl⟩ := ru
    exact ⟨_, t, List.getElem?_eq_getElem hlt, (Option.some.inj (hu.symm.trans hv')).symm⟩
  refine wpAny_mono (list_acc_list (Q := EP X pins σ Q) (E := X.xe) True (fun _ i v hv => cls v (List.mem_of_getElem? (by simpa using hv))) (fun _ => t3) (I3.ok.hd hc) pl.isList (by simpa using hlen) hi (by simp only [List.size_toArray]; rw [hlen]; simpa using hsz) fun h' k a acc c hp hk ha' hal hav => ?_) (fun v s4 h4 => Calls.spliced_nil h4) fun _ _ z => z
  have rv2 : Vals ((psum ns).map V.int) acc := by
    refine paired_of (by rw [List.length_map, psum_len, hal]) fun i x u h1 h2 => ?_
    obtain ⟨⟨t, rfl⟩, _⟩ := hav i u h2
    have hlt : i < ns.length := by have := (List.getElem?_eq_some_iff.mp h2).1; omega
    have e1 : ((psum ns).map V.int)[i]? = some (V.int (ns.take (i + 1)).sum) := by
      unfold psum
      rw [List.getElem?_map, List.getElem?_map, List.getElem?_range hlt]; rfl
    rw [e1] at h1
    cases h1
    exact ⟨t, rfl⟩
  refine newC_at (its := acc) (n := c) (t' := k) I3 hk hp (by rw [List.length_map, psum_len]; simpa using hsz) rv2 (fun v hv => ?_) ha' q3
  obtain ⟨i, hi', ev⟩ := List.getElem_of_mem hv
  exact (hav i v (by rw [List.getElem?_eq_getElem hi', ev])).2 trivial
/-- e[::-1], a token out -/
theorem pet_revC {e : Expr} {te : TE} {k : Nat} {p1 p2 p3 pos : Pos} (he : PET X e te) : PET X (.Subscript e (.Slice none none (some (.UnaryOp .USub (.Constant (.int 1) k p1) p2)) p3) pos) (tRevC X te) := by
  intro pins s σ H Q h1 I h
  refine Subscript_ (thn (he pins s σ H _ h1 I h) fun v s1 ⟨x, H1, I1, r1, q1⟩ => ?_)
  obtain ⟨a, xs, ex, hx, hcl, q⟩ := q1
  subst ex
  cases r1
  have hst : PO X (some (.UnaryOp .USub (.Constant (.int 1) k p1) p2)) (tPart (tUn (rU fun i => .int (-i)) (tC (.int 1)))) := po_some (pe_un un_neg pe_int)
  refine wpAny_Slice (thn (po_none.run pins s1 σ H1 (fun o H2 => o = none ∧ H2 = H1) I1 ⟨rfl, rfl⟩) fun vl s2 ⟨l, H2, I2, pl, el, e2⟩ => ?_)
  subst el e2
  refine thn (po_none.run pins s2 σ H2 (fun o H3 => o = none ∧ H3 = H2) I2 ⟨rfl, rfl⟩) fun vu s3 ⟨u, H3, I3, pu, eu, e3⟩ => ?_
  subst eu e3
  refine thn (hst.run pins s3 σ H3 (fun o H4 => o = some (-1) ∧ H4 = H3) I3 ⟨1, rfl, -1, rfl, rfl, rfl⟩) fun vs s4 ⟨o, H4, I4, ps, eo, e4⟩ => ?_
  subst eo e4
  have I5 : Inv X pins σ H4 { s4 with heap := s4.heap.push { cls := .type "slice", data := .fields #[vl, vu, vs] } } := I4.kept (t' := s4.toks) fun b ob q => Heap.get?_push_of_some _ q
  obtain ⟨its, r, ht, cls⟩ := clean_list I5 hx hcl
  obtain ⟨_, _, _, hz⟩ := I5.list hx
  have hlen := r.length
  show wpAny (model X.prog X.w) X.A (subscriptTail e (.Slice none none (some (.UnaryOp .USub (.Constant (.int 1) k p1) p2)) p3) (.ref a) (.ref s4.heap.objs.size)) (EP X pins σ Q) X.xe { s4 with heap := s4.heap.push { cls := .type "slice", data := .fields #[vl, vu, vs] } }
  refine tail_any (ops := [.ref a, .ref s4.heap.objs.size]) ht.isList.typeIs (PySem.slot_list_getitem.lookup) ?_ (by with_unfolding_all rfl)
  refine wpAny_getItem_list_slice ht.isList (Heap.IsSliceOf.new _ vl vu vs) pl pu ps (by decide) ?_ (by rw [List.size_toArray]; omega)
  rw [PySem.W.krv_pick]
  exact newC_at (t' := s4.toks) I5 (fun b ob q => Heap.get?_push_of_some _ q) (Nat.le_refl _) (by rw [List.length_reverse]; exact hz) r.reverse (fun v hv => cls v (List.mem_reverse.mp hv)) (Heap.get?_push_size _ rfl) q
end
end RFI
end
-- part RLocC
section
set_option Elab.async false
set_option linter.all false
set_option maxRecDepth 100000
set_option maxHeartbeats 2000000
/-! A local name whose very value is known: stored, read, appended. -/
namespace RFI
open PySem PySem.Spec PyProof.Rows L2
section
variable {X : Cx} {pins : List (Addr × Obj)} {σ : L2.St} {H : Hp} {s : Shared}
/-- the def's own name x holds u itself -/
def LocIs (X : Cx) (x : Str) (u : Value) (h : Heap) : Prop := ∃ m, h.Ns X.env.locals m ∧ m x = some u
theorem LocIs.load {x : Str} {u : Value} {p : Pos} {Q : Value → Shared → Prop} {A : Around} {E : Value → Shared → Prop} {P : Program} {w : World} (L : LocIs X x u s.heap) (hk : X.env.scope.kind = .function) (hl : X.env.scope.names.lookup x = some .local) (hd : (x == ("__debug__" : Str)) = false) (q : Q u s) :
    wpAny (model P w) A (eval (.Name x p) X.env) Q E s := by
  obtain ⟨m, hn, hm⟩ := L
  exact wpAny_Name (wpAny_loadName_local hk hl hn hm q) hd
theorem stored {i : Nat} {x : Str} {v : V} {u : Value} {h' : Heap} {t' : Nat} {m : Str → Option Value} (I : Inv X pins σ H s) (hN : X.N.Nodup) (hi : X.N[i]? = some x) (hk : X.env.scope.names.lookup x = some .local) (r : RelV v u)
    (hn : s.heap.Ns X.env.locals m) (hall : ∀ (j : Nat) (y : Str) (z : V), X.N[j]? = some y → σ[j]? = some (some z) → Vis X.env.scope y → ∃ w, RelV z w ∧ Look X.env s.heap m y w)
    (hn' : h'.Ns X.env.locals (fun y => if y = x then some u else m y)) (sb : Heap.SameBut X.env.locals s.heap h') : Inv X pins (σ.set i (some v)) H { s with heap := h', toks := t' } := by
  have lenσ : i < σ.length := by rw [I.len]; exact (List.getElem?_eq_some_iff.mp hi).1
  have cellNe := I.cne
  have low : ∀ (b : Addr) (ob : Obj), X.s_0.heap.get? b = some ob → b ≠ X.env.locals := fun b ob e => Nat.ne_of_lt (Nat.lt_of_lt_of_le (Heap.lt_size e) I.ok.above)
  have same_ : ∀ (b : Addr), b ≠ X.env.locals → h'.get? b = s.heap.get? b := fun b hb => sb.2 b hb
  refine ⟨I.ok, I.os, I.bare, ⟨?_, ?_, I.base.free, ?_, I.base.tups, I.base.frzs, I.base.tbls⟩, ⟨_, hn', ?_⟩, ?_, I.free, I.freeC, ?_, ?_, by simpa using I.len⟩
  · intro b ob e1 e2 e3 e4
    show h'.get? b = some ob
    rw [same_ b (low b ob e1)]
    exact I.base.keep b ob e1 e2 e3 e4
  · intro b ob e1 e2 e3 e4
    obtain ⟨sl, e5⟩ := I.base.slot b ob e1 e2 e3 e4
    refine ⟨sl, ?_⟩
    show h'.get? b = _
    rw [same_ b (low b ob e1)]
    exact e5
  · intro b ob e1 e2
    obtain ⟨ob', e5⟩ := I.base.there b ob e1 e2
    refine ⟨ob', ?_⟩
    show h'.get? b = _
    rw [same_ b (low b ob e1)]
    exact e5
  · intro j y z e1 e2 e3
    by_cases hj : j = i
    · subst hj
      rw [hi] at e1
      cases e1
      rw [List.getElem?_set_self lenσ] at e2
      cases e2
      refine ⟨u, r, .inl ⟨hk, ?_⟩⟩
      show (if x = x then some u else m x) = some u
      rw [if_pos rfl]
    · rw [List.getElem?_set_ne (Ne.symm hj)] at e2
      obtain ⟨w, rw', lk⟩ := hall j y z e1 e2 e3
      refine ⟨w, rw', ?_⟩
      rcases lk with ⟨k1, k2⟩ | ⟨k1, c, k2, k3⟩
      · have nyx : y ≠ x := fun e => hj (nodup_ix hN e1 (e ▸ hi))
        refine .inl ⟨k1, ?_⟩
        show (if y = x then some u else m y) = some w
        rw [if_neg nyx]
        exact k2
      · exact .inr ⟨k1, c, k2, k3.sameBut sb (cellNe y c k2)⟩
  · intro y c e
    obtain ⟨w, cw⟩ := I.cell y c e
    exact ⟨w, cw.sameBut sb (cellNe y c e)⟩
  · intro p hp
    obtain ⟨e1, e2, e3, e4, e5⟩ := I.pin p hp
    refine ⟨?_, e2, e3, e4, e5⟩
    show h'.get? p.1 = _
    rw [same_ _ e3]
    exact e1
  · intro b o e
    refine (I.hok b o e).stay (fun c w hc g => ?_) (fun _ g => g) fun _ _ g => g
    have nc : c ≠ X.env.locals := by
      rcases hc with e0 | hc
      · intro z
        rw [← e0, z, I.free] at e
        cases e
      · intro z
        rw [z, I.free] at hc
        cases hc
    exact (same_ c nc).trans g
/-- a store to one of the def's own names -/
theorem store_loc {A : Around} {E : Value → Shared → Prop} {M : Model} {i : Nat} {x : Str} {v : V} {u : Value} {Q : Unit → Shared → Prop} (I : Inv X pins σ H s) (hN : X.N.Nodup) (hi : X.N[i]? = some x) (hk : X.env.scope.names.lookup x = some .local) (r : RelV v u)
    (h : ∀ s', Inv X pins (σ.set i (some v)) H s' → LocIs X x u s'.heap → 1 ≤ s'.toks → Q () s') : wpAny M A (storeName X.env x u) Q E s := by
  obtain ⟨m, hn, hall⟩ := id I.loc
  refine wpAny_storeName_local hk hn (fun h' hn' sb => ?_) (by rw [I.ok.kind]; rfl)
  refine h _ (stored (t' := s.toks + 1) I hN hi hk r hn hall hn' sb) ⟨_, hn', ?_⟩ (Nat.succ_le_succ (Nat.zero_le _))
  show (if x = x then some u else m x) = some u
  rw [if_pos rfl]
/-- a name is read: the state as it was -/
theorem name_same {A : Around} {E : Value → Shared → Prop} {P : Program} {w : World} {j : Nat} {x : Str} {v : V} {p : Pos} {Q : Value → Shared → Prop} (I : Inv X pins σ H s) (hj : X.N[j]? = some x) (hv : Vis X.env.scope x) (e : σ[j]? = some (some v)) (hd : (x == ("__debug__" : Str)) = false) (hcd : (x == ("__classdict__" : Str)) = false)
    (q : ∀ u, RelV v u → Q u s) : wpAny (model P w) A (eval (.Name x p) X.env) Q E s := by
  obtain ⟨m, hn, hall⟩ := I.loc
  obtain ⟨u, r, lk⟩ := hall j x v hj e hv
  rcases lk with ⟨k1, k2⟩ | ⟨k1, c, k2, k3⟩
  · exact wpAny_Name (wpAny_loadName_local I.ok.kind k1 hn k2 (q u r)) hd
  · rcases k1 with k1 | k1
    · exact wpAny_Name (wpAny_loadName_cell I.ok.kind k1 k2 k3 (q u r)) hd
    · exact wpAny_Name (wpAny_loadName_free I.ok.kind k1 k2 k3 (q u r) hcd) hd
/-- y = e; xs.append(y): e's value is a clean one -/
def tSetApp (X : Cx) (i j : Nat) (te : TE) (u : TS) : TS := fun D σ H => te σ H fun v H1 => ∃ l xs o, (σ.set i (some v))[j]? = some (some (.ref l)) ∧ H1 l = some (.frz o (.lst xs)) ∧ ClO o ∧ NF X l ∧ xs.length < sizeLine ∧ ∀ o', ClO o' → u D (σ.set i (some v)) (upd H1 l (.frz o' (.lst (xs ++ [v]))))
theorem app_any {E : Value → Shared → Prop} {l : Addr} {xs : List V} {y : V} {v : Value} {o : Obj} {Q : Value → Shared → Prop} (I : Inv X pins σ H s) (hH : H l = some (.frz o (.lst xs))) (co : ClO o) (nf : NF X l) (hz : xs.length < sizeLine) (r : RelV y v) (hc : Cl v)
    (h : ∀ s' o', ClO o' → Inv X pins σ (upd H l (.frz o' (.lst (xs ++ [y])))) s' → Q .none s') : wpAny (model X.prog X.w) X.A (call (.builtin "list.append") [.ref l, v]) Q E s := by
  obtain ⟨its, n, z, ri, e, cls, I2⟩ := opened I hH co nf
  refine app_cl I2 upd_same hz r hc fun s' I3 => ?_
  rw [upd_upd] at I3
  obtain ⟨od, cod, I4⟩ := closed I3 rfl
  exact h s' od cod I4
theorem pss_setApp {i j : Nat} {y l : Str} {e : Expr} {te : TE} {rest : List Stmt} {u : TS} {py spos pl apos pa cpos epos : Pos} (hN : X.N.Nodup) (hi : X.N[i]? = some y) (hy : X.env.scope.names.lookup y = some .local) (hyd : (y == ("__debug__" : Str)) = false) (hj : X.N[j]? = some l) (hl : Vis X.env.scope l) (he : PEc X e te) (hr : PSs X rest u)
    (hld : (l == ("__debug__" : Str)) = false := by decide) (hlc : (l == ("__classdict__" : Str)) = false := by decide)
    (hs : swapsWith e (some (.Name y py)) spos.line X.env = pure false := by rfl) (hs2 : swapsWith (.Call (.Attribute (.Name l pl) "append" apos) [.Name y pa] [] cpos) none epos.line X.env = pure false := by rfl)
    (hbase : attributeBase (.Name l pl) "append" X.env (eval (.Name l pl) X.env) = eval (.Name l pl) X.env := by rfl)
    (hfew : ((backTo cpos (starEach [.Name y pa] X.env)).all (fun x => !x.1) && (backToKw cpos (keywordEach [] X.env)).all (fun x => x.1.isSome) && decide ([Expr.Name y pa].length + ([] : List Keyword).length + (if ([] : List Keyword).isEmpty then 0 else 1) < 30)) = true := by rfl)
    (hline : (apos.endLine == cpos.line) = true := by rfl) (hst : starEach [.Name y pa] X.env = (false, eval (.Name y pa) X.env) :: starEach [] X.env := by rfl) (hplain : (backTo cpos (starEach [] X.env)).any (·.1) = false := by rfl) :
    PSs X (.Assign [.Name y py] e spos :: .Expr (.Call (.Attribute (.Name l pl) "append" apos) [.Name y pa] [] cpos) epos :: rest) (tSetApp X i j te u) := by
  refine ⟨fun pins s σ H D I h => ?_⟩
  refine wpAny_execs_cons (wpAny_Assign_Name (thn (he.run pins s σ H _ I h) fun v s1 ⟨cv, x, H1, I1, r1, la, xs, o, hσ, hH, co, nf, hz, q⟩ => ?_) hs)
  refine store_loc I1 hN hi hy r1 fun s2 I2 L _ => ?_
  refine wpAny_execs_cons (wpAny_Expr_any ?_ I.quiet hs2)
  refine wpAny_Call_method_late hbase hfew hline rfl (name_same I2 hj hl hσ hld hlc fun w rw' => ?_)
  cases rw'
  obtain ⟨h1, h2⟩ := tyV_is (v := Value.ref la) (x := V.ref la) (T := "list") I2 (show RelV (.ref la) (Value.ref la) from rfl) (show tyV X.K "list" (.ref la) H1 from .inl ⟨rfl, _, .inl (.inr ⟨o, hH⟩)⟩)
  refine ⟨"list", "list.append", PySem.F.plainAttrs_list, PySem.F.slot_list_append, PySem.F.type_list_append, h1, h2, ?_⟩
  rw [hst]
  refine Calls.callWith_builtin (by show (false || (backTo cpos (starEach [] X.env)).any (·.1)) = false; rw [hplain] <;> rfl) (Calls.evalArgs_plain ?_)
  show wpAny _ _ (spliced ((false, eval (.Name y pa) X.env) :: [])) _ _ s2
  refine Calls.spliced_cons (L.load I2.ok.kind hy hyd (Calls.spliced_nil ?_))
  refine app_any I2 hH co nf hz r1 cv fun s' o' co' I3 => ?_
  exact hr.run pins s' _ _ D I3 (q o' co')
end
end RFI
end
-- part RMeth
section
set_option Elab.async false
set_option linter.all false
set_option maxRecDepth 100000
set_option maxHeartbeats 2000000
/-! Methods of clean lists; abs; a dict that the module wrote; a text turned round. -/
namespace RFI
open PySem PySem.Spec PyProof.Rows L2
section
variable {X : Cx}
/-- a method whose value is a clean one -/
def MtRC (X : Cx) (id : String) (r : V → List V → Hp → VK → Prop) : Prop :=
  ∀ (pins : List (Addr × Obj)) (s : Shared) (σ : L2.St) (H : Hp) (x : V) (xs : List V) (v : Value) (us : List Value) (Q : VK), Inv X pins σ H s → RelV x v → Vals xs us → r x xs H Q → wpAny (model X.prog X.w) X.A (call (.builtin id) (v :: us)) (fun u s' => Cl u ∧ EP X pins σ Q u s') X.xe s
/-- a method that is handed clean values -/
def MtRA (X : Cx) (id : String) (r : V → List V → Hp → VK → Prop) : Prop :=
  ∀ (pins : List (Addr × Obj)) (s : Shared) (σ : L2.St) (H : Hp) (x : V) (xs : List V) (v : Value) (us : List Value) (Q : VK), Inv X pins σ H s → RelV x v → Vals xs us → (∀ u ∈ us, Cl u) → r x xs H Q → wpAny (model X.prog X.w) X.A (call (.builtin id) (v :: us)) (EP X pins σ Q) X.xe s
section
variable {T id : String} {name : Str} {r : V → List V → Hp → VK → Prop} {o e : Expr} {es : List Expr} {to : TE} {t : TA} {apos cpos : Pos}
theorem pec_bm (pa : PlainAttrs T) (slot : Slot T name id) (hty : typeOf (.builtin id) = pure (.type "method_descriptor")) (hm : MtRC X id r) (ho : PE X o to) (ha : PA X (e :: es) t) (hbase : attributeBase o name X.env (eval o X.env) = eval o X.env := by rfl)
    (hfew : ((backTo cpos (starEach (e :: es) X.env)).all (fun x => !x.1) && (backToKw cpos (keywordEach [] X.env)).all (fun x => x.1.isSome) && decide ((e :: es).length + ([] : List Keyword).length + (if ([] : List Keyword).isEmpty then 0 else 1) < 30)) = true := by rfl)
    (hline : (apos.endLine == cpos.line) = true := by rfl) (hs : starEach (e :: es) X.env = (false, eval e X.env) :: starEach es X.env := by rfl) (hplain : (backTo cpos (starEach es X.env)).any (·.1) = false := by rfl) :
    PEc X (.Call (.Attribute o name apos) (e :: es) [] cpos) (tBM X.K T r to t) := ⟨fun pins s σ H Q I h => by
  refine wpAny_Call_method_late hbase hfew hline rfl (thn (ho.run pins s σ H _ I h) fun v s1 ⟨x, H1, I1, r1, ty, q1⟩ => ?_)
  obtain ⟨h1, h2⟩ := tyV_is I1 r1 ty
  refine ⟨T, id, pa, slot, hty, h1, h2, ?_⟩
  have hA := ha.run cpos pins s1 σ H1 _ I1 q1
  rw [hs] at hA ⊢
  exact Calls.callWith_builtin (by show (false || (backTo cpos (starEach es X.env)).any (·.1)) = false; rw [hplain] <;> rfl) (Calls.evalArgs_plain (thn hA fun us s2 ⟨vs, H2, I2, r2, q2⟩ => hm pins s2 σ H2 x vs v us Q I2 r1 r2 q2))⟩
theorem pe_bmA (pa : PlainAttrs T) (slot : Slot T name id) (hty : typeOf (.builtin id) = pure (.type "method_descriptor")) (hm : MtRA X id r) (ho : PE X o to) (ha : PAc X (e :: es) t) (hbase : attributeBase o name X.env (eval o X.env) = eval o X.env := by rfl)
    (hfew : ((backTo cpos (starEach (e :: es) X.env)).all (fun x => !x.1) && (backToKw cpos (keywordEach [] X.env)).all (fun x => x.1.isSome) && decide ((e :: es).length + ([] : List Keyword).length + (if ([] : List Keyword).isEmpty then 0 else 1) < 30)) = true := by rfl)
    (hline : (apos.endLine == cpos.line) = true := by rfl) (hs : starEach (e :: es) X.env = (false, eval e X.env) :: starEach es X.env := by rfl) (hplain : (backTo cpos (starEach es X.env)).any (·.1) = false := by rfl) :
    PE X (.Call (.Attribute o name apos) (e :: es) [] cpos) (tBM X.K T r to t) := ⟨fun pins s σ H Q I h => by
  refine wpAny_Call_method_late hbase hfew hline rfl (thn (ho.run pins s σ H _ I h) fun v s1 ⟨x, H1, I1, r1, ty, q1⟩ => ?_)
  obtain ⟨h1, h2⟩ := tyV_is I1 r1 ty
  refine ⟨T, id, pa, slot, hty, h1, h2, ?_⟩
  have hA := ha cpos pins s1 σ H1 _ I1 q1
  rw [hs] at hA ⊢
  exact Calls.callWith_builtin (by show (false || (backTo cpos (starEach es X.env)).any (·.1)) = false; rw [hplain] <;> rfl) (Calls.evalArgs_plain (thn hA fun us s2 ⟨c2, vs, H2, I2, r2, q2⟩ => hm pins s2 σ H2 x vs v us Q I2 r1 r2 c2 q2))⟩
end
/-- xs.append(y) of a clean y -/
def rAppA (X : Cx) : V → List V → Hp → VK → Prop := fun x vs H Q => ∃ l xs o y, x = .ref l ∧ vs = [y] ∧ H l = some (.frz o (.lst xs)) ∧ ClO o ∧ NF X l ∧ xs.length < sizeLine ∧ ∀ o', ClO o' → Q .non (upd H l (.frz o' (.lst (xs ++ [y]))))
theorem mt_appA : MtRA X "list.append" (rAppA X) := by
  intro pins s σ H x vs v us Q I rx rv cu h
  obtain ⟨l, xs, o, y, rfl, rfl, hH, co, nf, hz, q⟩ := h
  cases rx
  obtain ⟨u, rfl, ru⟩ := rv.one
  exact app_any I hH co nf hz ru (cu u (List.mem_singleton.mpr rfl)) fun s' o' co' I' => ⟨.non, _, I', rfl, q o' co'⟩
/-- xs.pop(i) of clean items -/
def rPopC (X : Cx) : V → List V → Hp → VK → Prop := fun x vs H Q => ∃ (l : Addr) (xs : List V) (o : Obj) (i : Int) (k : Nat) (y : V), x = .ref l ∧ vs = [.int i] ∧ i = (k : Int) ∧ H l = some (.frz o (.lst xs)) ∧ ClO o ∧ NF X l ∧ xs[k]? = some y ∧ ∀ o', ClO o' → Q y (upd H l (.frz o' (.lst (xs.eraseIdx k))))
theorem mt_popC : MtRC X "list.pop" (rPopC X) := by
  intro pins s σ H x vs v us Q I rx rv h
  obtain ⟨l, xs, o, i, k, y, rfl, rfl, hik, hH, co, nf, hy, q⟩ := h
  cases rx
  obtain ⟨u, rfl, ru⟩ := rv.one
  obtain ⟨t, rfl⟩ := ru
  obtain ⟨its, n, z, r, e, cls, I2⟩ := opened I hH co nf
  obtain ⟨w, hw, rw'⟩ := r.get hy
  have hl := r.length
  have hlt : k < xs.length := (List.getElem?_eq_some_iff.mp hy).1
  have hn := line63
  have hk : seqIndex? i its.toArray.size = some k := by
    have h := PySem.seqIndex_of (k := i) (n := its.toArray.size) (by omega) (by rw [List.size_toArray]; omega)
    rw [hik, Int.toNat_natCast] at h
    rw [hik]
    exact h
  have hw' : its.toArray[k]? = some w := by rw [← Array.getElem?_toList]; exact hw
  have hf : Builtin.List.listFitsIndex i = true := fitsIndex_both (by omega) (by omega)
  have hz' : its.toArray.size ≤ sizeLine := by rw [List.size_toArray]; omega
  have M := MeetsSeq.list_pop_at l its.toArray n i t k w hf hk hw' hz'
  refine call_meets F.slot_list_pop ⟨_, e, rfl⟩ F.entry_list_pop (F.args_list_pop_2 _ _) M ⟨e, ?_⟩
  have I3 := Inv.extset (t' := s.toks) (its' := its.eraseIdx k) (ys := xs.eraseIdx k) I2 upd_same e (f := fun a => a.eraseIdxIfInBounds k) (by simp [List.eraseIdxIfInBounds_toArray]) (r.eraseIdx k) (by have := len_erase xs k; omega) (fun v hv => cls v (List.mem_of_mem_eraseIdx hv))
  rw [upd_upd] at I3
  obtain ⟨od, cod, I4⟩ := closed I3 rfl
  exact ⟨cls w (List.mem_of_getElem? hw), y, _, I4, rw', q od cod⟩
/-- the item goes, its value is not kept -/
theorem mt_popC0 : MtR X "list.pop" (rPopC X) := fun pins s σ H x vs v us Q I rx rv h => thn (mt_popC pins s σ H x vs v us Q I rx rv h) fun _ _ z => z.2
/-! ### abs -/
section
variable {prog : Program} {w : World} {A : Around} {E : Value → Shared → Prop} {s : Shared}
open PyProof.Rows PySem.Calls in
theorem abs_intC {a : Int} {t : Tok} {Q : Value → Shared → Prop} (h1 : 1 ≤ s.toks) (hc : Cl (.int a t)) (h : ∀ u tk, Cl (.int (if a < 0 then -a else a) u) → Q (.int (if a < 0 then -a else a) u) { s with toks := tk }) : wpAny (model prog w) A (call (.builtin "abs") [.int a t]) Q E s := by
  refine call_function_entry kind_abs plain_abs entry_abs (args_abs _) ?_
  unfold Builtin.«abs»; refine wpAny_bind (m := oneArg "abs" _) (wpAny_pure (wpAny_bind (m := callSpecial? (.int a t) (Str.ofString "__abs__")) (wpAny_callSpecial?_slot (name := Str.ofString "__abs__") (typeIs_int s a t) slot_int_abs (wpAny_call_entry slot_int_abs (typeIs_int s a t) entry_int_abs ?_ (args_int_abs _)))))
  show wpAny _ _ (if a < 0 then _ else _) _ _ s
  by_cases hn : a < 0
  · have q := h s.toks (s.toks + 1) (cl_tok1 h1)
    rw [if_pos hn] at q ⊢
    exact wpAny_ret_mkInt (wpAny_pure ⟨_, rfl, q⟩)
  · have q := h t s.toks (by rw [if_neg hn]; exact hc)
    rw [if_neg hn] at q ⊢
    exact wpAny_pure ⟨_, rfl, wpAny_pure ⟨_, rfl, q⟩⟩
end
def tAbsC (te : TE) : TE := fun σ H Q => te σ H fun x H1 => ∃ i : Int, x = .int i ∧ Q (.int (if i < 0 then -i else i)) H1
theorem pef_abs {x : Str} {e : Expr} {te : TE} {p pos : Pos} (hg : Gl X x) (hm : X.mg x = none) (hv : bootBuiltins x = some (.builtin "abs")) (ha : PEf X e te) (hn : x ≠ "__name__" := by decide) (hdb : (x == ("__debug__" : Str)) = false := by decide)
    (he : starEach [e] X.env = (false, eval e X.env) :: starEach [] X.env := by rfl) (hpl : (backTo pos (starEach [] X.env)).any (·.1) = false := by rfl) : PEf X (.Call (.Name x p) [e] [] pos) (tAbsC te) := fun pins s σ H Q h1 I h => by
  refine wpAny_Call_Name_kw (ld_blt I hg hm hv (PyProof.Rows.callWith_builtin1 ?_ he hpl) hn hdb)
  rw [he]
  show wpAny _ _ (spliced ((false, eval e X.env) :: backTo pos (starEach [] X.env))) _ _ s
  refine Calls.spliced_cons (PySem.wpAny_with_toks h1 (wpAny_mono (ha pins s σ H _ h1 I h) (fun v s1 z t1 => Calls.spliced_nil ?_) fun _ _ z _ => z))
  obtain ⟨cv, x1, H1, I1, r1, i, ex, q⟩ := z
  subst ex
  obtain ⟨t, rfl⟩ := r1
  exact abs_intC t1 cv fun u tk cu => ⟨cu, V.int _, H1, I1.tok tk, ⟨u, rfl⟩, q⟩
/-! ### d[key] of a dict that the module wrote -/
def rIxKd (K : PySem.W.Frag) (d : Addr) : R2 := fun x y H Q => ∃ (z : Str) (u0 : Value) (v0 : V), x = .ref d ∧ y = .str z ∧ PySem.W.nsIn K d z = some (some u0) ∧ RelV v0 u0 ∧ Q v0 H
theorem ix_kd {d : Addr} {es : Array DictEntry} {n : Nat} (D : KDict X.K X.w d es n) : IxR X (rIxKd X.K d) := by
  intro value slice pins s σ H x y v u Q I rx ry h hs
  have h0 := h
  obtain ⟨z, u0, v0, rfl, rfl, _⟩ := h0
  have rx' := rx
  cases rx'
  exact tail_any (ops := [_, _]) (kd_type D I) PySem.F.slot_dict_getitem.lookup (op_item_kd D pins s σ H _ _ _ u Q I rx ry h) hs
end
end RFI
end
-- part P5A
section
set_option Elab.async false
set_option linter.all false
set_option maxRecDepth 100000
set_option maxHeartbeats 4000000
namespace K5
open PySem PySem.Spec PyProof.Rows L2 RFI K1 ZG CwR K2
theorem scWb : FnScope ["ways", "letter"] ["ways", "letter"] (defScope sWb) := ⟨rfl, rfl, rfl, by decide +kernel, rfl, by decide +kernel, by decide +kernel⟩
theorem scWy : FnScope ["word", "ways", "letter"] ["word"] (defScope sWy) := ⟨rfl, rfl, rfl, by decide +kernel, rfl, by decide +kernel, by decide +kernel⟩
theorem scWa : FnScope ["word", "letter"] ["word"] (defScope sWa) := ⟨rfl, rfl, rfl, by decide +kernel, rfl, by decide +kernel, by decide +kernel⟩
theorem scWs : FnScope ["ways", "here", "behind"] ["ways"] (defScope sWs) := ⟨rfl, rfl, rfl, by decide +kernel, rfl, by decide +kernel, by decide +kernel⟩
theorem scLr : FnScope ["letter", "rank"] ["letter", "rank"] (defScope sLr) := ⟨rfl, rfl, rfl, by decide +kernel, rfl, by decide +kernel, by decide +kernel⟩
section
variable {P : Program} {w : World} {K : PySem.W.Frag} {mg : Str → Option Value} {base : Heap}
/-- ways_behind: clean of clean -/
def spWbC (K : PySem.W.Frag) : Sp := fun vs H Q _ => ∃ (a : Addr) (ws : List Int) (b : Bool), vs = [.ref a, .str (wd [b])] ∧ Cw K H a ws ∧ ws.length ≤ 1000 ∧ ∀ H' p, Same H H' → H p = none → Cw K H' p (RF.step b ws) → Q (.ref p) H'
theorem ok_wbC {f : Addr} {fd : FuncData} (F : Fun K "ways_behind" "ways_behind" sWb f fd) (N : Nm mg) : FnOk P w K mg base CX0 1 f fd ["ways", "letter"] (spWbC K) := by
  refine RFI.Fun.okK F scWb (by decide +kernel) (by decide) (fun vs H Q E h => ?_) (fun cdv A outer s H vs Q E hr h => ?_)
  · obtain ⟨a, ws, b, rfl, _⟩ := h
    rfl
  · obtain ⟨a, ws, b, rfl, hS, hl, q⟩ := h
    refine ⟨_, psst_cons (pst_if (pt_cmpR op_eq (pv 1) pe_str (nomark _))
        (psst_one (pst_ret (pet_op op_catC (pet_lstC (paf_cons pef_int paf_nil)) (pet_listAccC rfl (by rfl) N.list (by rfl) N.acc (PAT.of (pa_cons (pv 0) pa_nil)))))) psst_nil)
      (psst_one (pst_ret (pet_op op_catC (pet_revC (pet_listAccC rfl (by rfl) N.list (by rfl) N.acc (PAT.of (pa_cons (pe_revC (pv 0)) pa_nil)))) (pet_lstC (paf_cons pef_int paf_nil))))), ?_⟩
    have hsm : (1001 : Nat) ≤ sizeLine := by decide
    have fin : ∀ (p : Addr) (o : Obj) (H' : Hp), Same H H' → H p = none → ClO o → H' p = some (.frz o (.lst ((RF.step b ws).map V.int))) → Q (.ref p) H' := fun p o H' s n c e => q H' p s n (.frz e c)
    refine ⟨_, rfl, rfl, _, rfl, ?_⟩
    cases b with
    | true =>
      refine ite2 (fun _ => ?_) (fun e => absurd (decide_eq_true (by decide +kernel)) e)
      refine ⟨by decide, fun o oo no _ co => ?_⟩
      have s1 := same_upd (o := .frz oo (.lst [V.int 0])) no
      refine ⟨_, rfl, a, ws, rfl, (hS.same s1).sq, (hS.same s1).cl, fun p op np _ cp => ?_⟩
      have npo : o ≠ p := ne_of_none upd_same np
      refine ⟨o, p, _, _, rfl, rfl, .inr ⟨_, by rw [upd_ne npo, upd_same]⟩, .inl ⟨_, .inl (by rw [upd_ne npo, upd_same]), co⟩, .inr ⟨_, upd_same⟩, .inl ⟨_, .inl upd_same, cp⟩, ?_, fun r orr nr _ cr => ?_⟩
      · rw [List.length_map, psum_len]
        show 1 + ws.length ≤ sizeLine
        omega
      · refine fin r orr _ (s1.trans ((same_upd np).trans (same_upd nr))) ((s1.trans (same_upd np)).free nr) cr ?_
        rw [upd_same, psum_pre0]
        rfl
    | false =>
      refine ite2 (fun e => absurd (of_decide_eq_true e) (by decide +kernel)) (fun _ => ?_)
      refine ⟨_, rfl, a, _, rfl, hS.sq, hS.cl, fun p1 o1 n1 _ c1 => ?_⟩
      have e1 : (ws.map V.int).reverse = ws.reverse.map V.int := by rw [List.map_reverse]
      refine ⟨p1, ws.reverse, rfl, .inl (.inr ⟨o1, by rw [upd_same, e1]⟩), .inl ⟨o1, .inl (by rw [upd_same, e1]), c1⟩, fun p2 o2 n2 _ c2 => ?_⟩
      refine ⟨p2, _, rfl, .inl (.inr ⟨_, upd_same⟩), .inl ⟨_, .inl upd_same, c2⟩, fun p3 o3 n3 _ c3 => ?_⟩
      refine ⟨by decide, fun p4 o4 n4 _ c4 => ?_⟩
      have n34 : p3 ≠ p4 := ne_of_none upd_same n4
      refine ⟨p3, p4, _, _, rfl, rfl, .inr ⟨_, by rw [upd_ne n34, upd_same]⟩, .inl ⟨_, .inl (by rw [upd_ne n34, upd_same]), c3⟩, .inr ⟨_, upd_same⟩, .inl ⟨_, .inl upd_same, c4⟩, ?_, fun r orr nr _ cr => ?_⟩
      · rw [List.length_reverse, List.length_map, psum_len, List.length_reverse]
        show ws.length + 1 ≤ sizeLine
        omega
      · have S4 := ((same_upd (o := .frz o1 (.lst (ws.map V.int).reverse)) n1).trans (same_upd n2)).trans ((same_upd n3).trans (same_upd (o := .frz o4 (.lst [V.int 0])) n4))
        refine fin r orr _ (S4.trans (same_upd nr)) (S4.free nr) cr ?_
        rw [upd_same, psum_pre0, ← List.map_reverse]
        show some (HO.frz orr (.lst ((RF.pre 0 ws.reverse).reverse.map V.int ++ [V.int 0]))) = some (HO.frz orr (.lst (((RF.pre 0 ws.reverse).reverse ++ [0]).map V.int)))
        rw [List.map_append]
        rfl
def spWyC (K : PySem.W.Frag) : Sp := fun vs H Q _ => ∃ l : List Bool, vs = [.str (wd l)] ∧ l.length ≤ 900 ∧ ∀ H' p, Same H H' → H p = none → Cw K H' p (RF.run l [1]) → Q (.ref p) H'
theorem ok_wyC {f fW : Addr} {fd fdW : FuncData} (F : Fun K "ways_of" "ways_of" sWy f fd) (N : Nm mg)
    (FW : Fun K "ways_behind" "ways_behind" sWb fW fdW) (bW : Binds K fdW ["ways", "letter"] []) (gW : mg "ways_behind" = some (.ref fW)) : FnOk P w K mg base CX0 2 f fd ["word"] (spWyC K) := by
  have GW : FnOk P w K mg base CX0 1 fW fdW ["ways", "letter"] (spWbC K) := ok_wbC FW N
  refine F.ok scWy (fun vs H Q E h => ?_) (fun cdv A outer s H vs Q E hr h => ?_)
  · obtain ⟨l, rfl, _⟩ := h
    rfl
  · obtain ⟨l, rfl, hl, q⟩ := h
    refine ⟨_, pss_cons (ps_set (i := 1) scWy.nd rfl (.inl rfl) (pe_lst (pa_cons pe_int pa_nil)))
      (pss_cons (ps_for PassesOwn.never rfl (pi_str (pv 0)) (pg_name (i := 2) scWy.nd rfl (.inl rfl))
        (pss_one (ps_set (i := 1) scWy.nd rfl (.inl rfl) (pe_call GW hr (by rfl) gW FW.kp bW .nil pass0 (pa_cons (pv 1) (pa_cons (pv 2) pa_nil))))))
      (pss_one (ps_ret (pv 1)))), ?_⟩
    refine ⟨by decide, fun o no => ?_⟩
    refine ⟨_, rfl, _, rfl, for_word (fun i σ H3 => ∃ p v, σ = [some (.str (wd l)), some (.ref p), v] ∧ Same H H3 ∧ H p = none ∧ Cw K H3 p (RF.run (l.take i) [1]))
      ⟨o, none, rfl, same_upd no, no, .val (by rw [upd_same]; rfl) (fun x hx => by rw [List.mem_singleton.mp hx]; decide)⟩ (fun i b σ H3 hb hW => ?_) (fun σ H3 hW => ?_)⟩
    · obtain ⟨p, v, rfl, sm, np, hp⟩ := hW
      have hi : i < l.length := (List.getElem?_eq_some_iff.mp hb).1
      refine ⟨_, rfl, _, rfl, p, RF.run (l.take i) [1], b, rfl, hp, ?_, fun H4 p4 s4 n4 h4 => ?_⟩
      · rw [RF.run_len, List.length_take]
        show 1 + min i l.length ≤ 1000
        omega
      · refine ⟨p4, _, rfl, sm.trans s4, sm.free n4, ?_⟩
        rw [run_take hb]
        exact h4
    · obtain ⟨p, v, rfl, sm, np, hp⟩ := hW
      refine ⟨_, rfl, ?_⟩
      rw [List.take_of_length_le (Nat.le_refl _)] at hp
      exact q H3 p sm np hp
/-- ways_ahead -/
def spWa (K : PySem.W.Frag) : Sp := fun vs H Q _ => ∃ l : List Bool, vs = [.str (wd l)] ∧ l.length ≤ 900 ∧ ∀ H' p, Same H H' → H p = none → Cw K H' p (ahead l) → Q (.ref p) H'
/-- the dict of letters for letters -/
structure Exch (K : PySem.W.Frag) (w : World) (mg : Str → Option Value) (d : Addr) (es : Array DictEntry) (n : Nat) : Prop where
  kd : KDict K w d es n
  g : mg "EXCHANGED" = some (.ref d)
  u : ∃ t, PySem.W.nsIn K d "u" = some (some (.str "d" t))
  d : ∃ t, PySem.W.nsIn K d "d" = some (some (.str "u" t))
theorem wd_one (b : Bool) : wd [b] = if b then "u" else "d" := by cases b <;> decide +kernel
theorem Exch.at {K : PySem.W.Frag} {w : World} {mg : Str → Option Value} {d : Addr} {es : Array DictEntry} {n : Nat} (X : Exch K w mg d es n) (b : Bool) : ∃ t, PySem.W.nsIn K d (wd [b]) = some (some (.str (wd [!b]) t)) := by
  cases b with
  | true => obtain ⟨t, e⟩ := X.u; exact ⟨t, by rw [wd_one, wd_one]; exact e⟩
  | false => obtain ⟨t, e⟩ := X.d; exact ⟨t, by rw [wd_one, wd_one]; exact e⟩
theorem ok_wa {f fY fW d : Addr} {fd fdY fdW : FuncData} {es : Array DictEntry} {n : Nat} (F : Fun K "ways_ahead" "ways_ahead" sWa f fd) (N : Nm mg) (X : Exch K w mg d es n) (FY : Fun K "ways_of" "ways_of" sWy fY fdY) (bY : Binds K fdY ["word"] []) (gY : mg "ways_of" = some (.ref fY))
    (FW : Fun K "ways_behind" "ways_behind" sWb fW fdW) (bW : Binds K fdW ["ways", "letter"] []) (gW : mg "ways_behind" = some (.ref fW)) : FnOk P w K mg base CX0 3 f fd ["word"] (spWa K) := by
  have GY : FnOk P w K mg base CX0 2 fY fdY ["word"] (spWyC K) := ok_wyC FY N FW bW gW
  refine F.ok scWa (fun vs H Q E h => ?_) (fun cdv A outer s H vs Q E hr h => ?_)
  · obtain ⟨l, rfl, _⟩ := h
    rfl
  · obtain ⟨l, rfl, hl, q⟩ := h
    have nd := scWa.nd
    refine ⟨_, pss_one (ps_ret (pe_call GY hr (by rfl) gY FY.kp bY .nil pass0 (pa_cons (pe_join pe_str
      (pe_lc (own := [("letter", 1)]) (g := gName 1) rfl nd (pi_str (pe_revS (pv 0))) (blkOk_by (N := ["word", "letter"]) (sc := defScope sWa) (by decide +kernel)) (fun _ _ _ _ _ => pg_name (i := 1) nd rfl (Or.inl rfl)) (fun _ _ _ _ _ => pts_nil)
        (fun _ _ _ _ _ => pe_ix (r := rIxKd K d) (ix_kd X.kd) (pe_glob (v := .ref d) (by rfl) X.g rfl) (pv 1) (fun _ _ => rfl)))) pa_nil))), ?_⟩
    have hsm : (2000 : Nat) ≤ sizeLine := by decide
    refine ⟨⟨_, rfl⟩, _, rfl, l.map sg, rfl, by rw [List.length_map]; omega, ?_⟩
    rw [wd_rev]
    refine ⟨_, rfl, fun D nD => ?_⟩
    have hcs : (wd l.reverse).cps.size = l.length := by
      show (wd l.reverse).length = _
      rw [wd_len, List.length_reverse]
    refine lc_it (walk_str (z := wd l.reverse)) (fun j H5 => Same H H5 ∧ H5 D = some (.lst (((l.reverse.take j).map fun b => wd [!b]).map V.str))) ⟨same_upd nD, by rw [upd_same]; rfl⟩ (fun _ _ _ _ => trivial) (fun j x H5 H6 hj hW y => ?_) (fun H5 hW => ?_)
    · obtain ⟨s5, hD⟩ := hW
      obtain ⟨rfl, c, hc, rfl⟩ := y
      rw [hcs] at hj
      have hb : l.reverse[j]? = some (l.reverse[j]'(by rw [List.length_reverse]; exact hj)) := List.getElem?_eq_getElem _
      generalize l.reverse[j]'(by rw [List.length_reverse]; exact hj) = b at hb
      obtain ⟨b', hb', rfl⟩ := wd_at hc
      obtain rfl : b' = b := Option.some.inj (hb'.symm.trans hb)
      show wipe _ _ = _ ∧ _
      obtain ⟨t, et⟩ := X.at b'
      refine ⟨rfl, _, rfl, _, _, V.str (wd [!b']), rfl, rfl, et, ⟨t, rfl⟩, _, hD, ?_, ?_, ?_⟩
      · rw [List.length_map, List.length_map, List.length_take, List.length_reverse]
        exact Nat.lt_of_lt_of_le (show min j l.length < 2000 by omega) hsm
      · intro b2 x2 e2
        rw [upd_ne (ne_of_none e2 nD)]
        exact s5 b2 x2 e2
      · rw [upd_same, List.take_add_one, hb, List.map_append, List.map_append]
        rfl
    · obtain ⟨s5, hD⟩ := hW
      rw [hcs, List.take_of_length_le (by rw [List.length_reverse]; exact Nat.le_refl _)] at hD
      have em : (l.reverse.map fun b => wd [!b]) = (l.reverse.map (!·)).map fun b => wd [b] := by rw [List.map_map]; rfl
      rw [em] at hD
      refine ⟨_, D, _, rfl, rfl, .inl (.inl (.inl hD)), ?_, ?_⟩
      · rw [letters_sum, List.length_map, List.length_map, List.length_reverse]
        show l.length + l.length * 0 ≤ 16777216
        omega
      rw [join_wd]
      exact ⟨l.reverse.map (!·), rfl, by rw [List.length_map, List.length_reverse]; exact hl, fun H' p s' np hp => q H' p (s5.trans s') (s5.free np) hp⟩
end
end K5
end
-- part P5B
section
set_option Elab.async false
set_option linter.all false
set_option maxRecDepth 100000
set_option maxHeartbeats 4000000
namespace K5
open PySem PySem.Spec PyProof.Rows L2 RFI K1 ZG CwR K2
theorem scCn : FnScope ["number", "many"] ["number", "many"] (defScope sCn) := ⟨rfl, rfl, rfl, by decide +kernel, rfl, by decide +kernel, by decide +kernel⟩
theorem scCk : FnScope ["word", "order"] ["word", "order"] (defScope sCk) := ⟨rfl, rfl, rfl, by decide +kernel, rfl, by decide +kernel, by decide +kernel⟩
section
variable {P : Program} {w : World} {K : PySem.W.Frag} {mg : Str → Option Value} {base : Heap}
/-- ways_shorter -/
def spWs (K : PySem.W.Frag) : Sp := fun vs H Q _ => ∃ (a : Addr) (ws : List Int), vs = [.ref a] ∧ Cw K H a ws ∧ ws.length ≤ 1000 ∧ ∀ H' p, Same H H' → H p = none → Cw K H' p (nb (fun x y => K2.absI (y - x)) ws) → Q (.ref p) H'
theorem ok_ws {f : Addr} {fd : FuncData} (F : Fun K "ways_shorter" "ways_shorter" sWs f fd) (N : Nm mg) : FnOk P w K mg base CX0 1 f fd ["ways"] (spWs K) := by
  refine RFI.Fun.okK F scWs (by decide +kernel) (by decide) (fun vs H Q E h => ?_) (fun cdv A outer s H vs Q E hr h => ?_)
  · obtain ⟨a, ws, rfl, _⟩ := h
    rfl
  · obtain ⟨a, ws, rfl, hS, hl, q⟩ := h
    have nd := scWs.nd
    refine ⟨_, psst_one (pst_ret (pet_lcT (own := [("here", 1), ("behind", 2)]) (g := gTup K 2 (gCons (gName 1) (gCons (gName 2) gNil))) rfl nd (pi_pw (by rfl) N.pw (pa_cons (pv 0) pa_nil)) (blkOk_by (N := ["ways", "here", "behind"]) (sc := defScope sWs) (by decide +kernel))
          (fun _ _ _ _ _ => pg_tup rfl (pgs_cons (pg_name (i := 1) nd rfl (Or.inl rfl)) (pgs_cons (pg_name (i := 2) nd rfl (Or.inl rfl)) pgs_nil))) (fun _ _ _ _ _ => pts_nil)
          (fun _ _ _ _ _ => pef_abs (by rfl) N.abs (by decide +kernel) (pef_op opc_sub (pv 2) (pv 1))))), ?_⟩
    have hsm : (2000 : Nat) ≤ sizeLine := by decide
    refine ⟨_, rfl, a, _, rfl, hS.sq, fun D nD => ?_⟩
    refine lcC_it (walk_pw (xs := ws.map V.int)) (fun j H5 => Same H H5 ∧ H5 D = some (.ext (clL D (((nb (fun x y => K2.absI (y - x)) ws).take j).map V.int)))) ⟨same_upd nD, by rw [upd_same]; rfl⟩ (fun j H5 _ hW => ⟨hW.1.seq hS.sq, clI_same hS.cl.toI hW.1⟩) (fun j x H5 H6 hj hW y => ?_) (fun H5 hW => ?_)
    · obtain ⟨s5, hD⟩ := hW
      obtain ⟨T, x0, x1, rfl, nT, rfl, e0, e1⟩ := y
      obtain ⟨u, eu, rfl⟩ := map_get e0
      obtain ⟨v, ev, rfl⟩ := map_get e1
      rw [List.length_map] at hj
      have s6 := same_upd (o := .tup [.int u, .int v]) nT
      refine ⟨T, _, rfl, .inl (.inl upd_same), rfl, _, _, rfl, _, _, rfl, rfl, rfl, _, rfl, _, rfl, _, _, rfl, rfl, _, rfl, _, s6 _ _ hD, ?_, ?_, ?_⟩
      · rw [List.length_map, List.length_take, nb_len]
        exact Nat.lt_of_lt_of_le (show min j (ws.length - 1) < 2000 by omega) hsm
      · intro b2 x2 e2
        rw [upd_ne (ne_of_none e2 nD)]
        exact s6 _ _ (s5 b2 x2 e2)
      · rw [upd_same, List.take_add_one, nb_get (fun x y => K2.absI (y - x)) ws j u v eu ev, List.map_append]
        rfl
    · obtain ⟨s5, hD⟩ := hW
      rw [List.length_map, List.take_of_length_le (by rw [nb_len]; exact Nat.le_refl _)] at hD
      refine ⟨_, hD, fun o co nf => ?_⟩
      refine q _ D (fun b2 x2 e2 => ?_) nD (.frz upd_same co)
      rw [upd_ne (ne_of_none e2 nD)]
      exact s5 b2 x2 e2
def spLr : Sp := fun vs H Q _ => ∃ (b : Bool) (r : Nat), vs = [.str (wd [b]), .int (r : Nat)] ∧ Q (.int (startOf b r : Nat)) H
theorem ok_lr {f : Addr} {fd : FuncData} (F : Fun K "least_rank" "least_rank" sLr f fd) : FnOk P w K mg base CX0 1 f fd ["letter", "rank"] spLr := by
  refine F.ok scLr (fun vs H Q E h => ?_) (fun cdv A outer s H vs Q E hr h => ?_)
  · obtain ⟨b, r, rfl, _⟩ := h
    rfl
  · obtain ⟨b, r, rfl, q⟩ := h
    refine ⟨_, pss_one (ps_ret (pe_ifExp (pt_cmpR op_eq (pv 0) pe_str (nomark _)) (pv 1) pe_int)), ?_⟩
    refine ⟨_, rfl, rfl, _, rfl, ?_⟩
    cases b with
    | true => exact ite2 (fun _ => ⟨_, rfl, q⟩) (fun e => absurd (decide_eq_true (by decide +kernel)) e)
    | false => exact ite2 (fun e => absurd (of_decide_eq_true e) (by decide +kernel)) (fun _ => q)
/-- is_whole of a whole number -/
theorem ok_iw {f : Addr} {fd : FuncData} (F : Fun K "is_whole" "is_whole" sIw f fd) (N : Nm mg) : FnOk P w K mg base CX0 1 f fd ["value"] spWh := by
  refine F.ok scIw (fun vs H Q E h => ?_) (fun cdv A outer s H vs Q E hr h => ?_)
  · obtain ⟨a, rfl, _⟩ := h
    rfl
  · obtain ⟨n, rfl, q⟩ := h
    refine ⟨_, pss_one (ps_ret (pe_and (pe_callB call_isi (by rfl) N.isi boot_isinstance (pa_cons (pv 0) (pa_cons (pe_bltn (by rfl) N.int (u := .type "int") (v := .ty "int") (by decide +kernel) rfl) pa_nil)))
      (pe_one (pe_not (pe_callB call_isi (by rfl) N.isi boot_isinstance (pa_cons (pv 0) (pa_cons (pe_bltn (by rfl) N.bool (u := .type "bool") (v := .ty "bool") (by decide +kernel) rfl) pa_nil))))))), ?_⟩
    refine ⟨_, rfl, _, _, _, _, true, rfl, .ty "int", .base (.int _), kit_ty (by decide +kernel), true, rfl, iteT ?_⟩
    exact ⟨_, rfl, _, _, _, _, false, rfl, .ty "bool", .base (.int _), kit_ty (by decide +kernel), false, rfl, q⟩
def spCn : Sp := fun vs H Q _ => ∃ (x m : Int), vs = [.int x, .int m] ∧ 0 ≤ x ∧ x < m ∧ Q .non H
theorem ok_cn {f fI : Addr} {fd fdI : FuncData} (F : Fun K "check_number" "check_number" sCn f fd) (N : Nm mg) (FI : Fun K "is_whole" "is_whole" sIw fI fdI) (bI : Binds K fdI ["value"] []) (gI : mg "is_whole" = some (.ref fI)) : FnOk P w K mg base CX0 2 f fd ["number", "many"] spCn := by
  have GI : FnOk P w K mg base CX0 1 fI fdI ["value"] spWh := ok_iw FI N
  refine F.ok scCn (fun vs H Q E h => ?_) (fun cdv A outer s H vs Q E hr h => ?_)
  · obtain ⟨x, m, rfl, _⟩ := h
    rfl
  · obtain ⟨x, m, rfl, h0, h1, q⟩ := h
    refine ⟨_, pss_one (ps_if (PW.pt (pw_or (pt_not (pt_val (pe_call GI hr (by rfl) gI FI.kp bI .nil pass0 (pa_cons (pv 0) pa_nil)))) (pw_or1 (pt_not (pt_chain op_le op_lt pe_int (pv 0) (pv 1)))))) (pss_one ps_never) pss_nil), ?_⟩
    refine ⟨_, rfl, x, rfl, true, rfl, iteF ?_⟩
    refine ⟨_, rfl, _, _, rfl, rfl, _, rfl, ?_⟩
    rw [decide_eq_true h0]
    refine iteT ⟨_, rfl, _, _, rfl, rfl, _, rfl, ?_⟩
    rw [decide_eq_true h1]
    exact iteF q
/-- word_of, whatever tables there are -/
def spWoT (K : PySem.W.Frag) (Ts : List Addr) : Sp := fun vs H Q _ => ∃ (a : Addr) (ns : List Int), vs = [.ref a] ∧ SqL K H a (ns.map V.int) ∧ ClI K H a (ns.map V.int) ∧ TabsG H Ts ∧ 1 ≤ ns.length ∧ ns.length ≤ 900 ∧
  (∀ (i : Nat) (x y : Int), ns[i]? = some x → ns[i + 1]? = some y → x ≠ y) ∧ ∀ H', SameT Ts H H' → TabsG H' Ts → Q (.str (wd (byOf ns))) H'
end
end K5
end
-- part RRgC
section
set_option Elab.async false
set_option linter.all false
set_option maxRecDepth 100000
set_option maxHeartbeats 2000000
/-! list(range(..)): its numbers are told apart from pairwise's mark. -/
namespace RFI
open PySem PySem.Spec PyProof.Rows L2
section
variable {P : Program} {w : World} {A : Around} {E : Value → Shared → Prop} {s : Shared}
/-- a range walked while a token is out -/
theorem rgT (hh : A.handled = none) (J : Addr) (a c : Int) (n : Nat) :
    WalksS P w A J [J] [J] (fun x y => y = x) n (fun i v => ∃ t, 1 ≤ t ∧ v = .int (a + i * c) t) (fun i s => IsRangeIter s.heap J (a + (i : Nat) * c) ((n : Int) - (i : Nat)) c ∧ 1 ≤ s.toks) := by
  refine { sub := fun _ hb => hb, grefl := fun _ => rfl, gtrans := fun _ _ _ h1 h2 => h2.trans h1, frame := fun i s h' tk st ht hk => ⟨hk J (by simp) _ st.1, Nat.le_trans st.2 ht⟩, item := fun i s Q E hi st hQ => ?_, done := fun s Q E st hQ => ?_, self := fun i s Q E st hQ => ?_ }
  · refine wpAny_pyNext_range_item st.1 (by omega) fun h' hit' hs' => ?_
    have e1 : a + (i : Int) * c + c = a + ((i + 1 : Nat) : Int) * c := by push_cast; rw [Int.add_mul, Int.one_mul, Int.add_assoc]
    have e2 : (n : Int) - (i : Int) - 1 = (n : Int) - ((i + 1 : Nat) : Int) := by push_cast; omega
    rw [e1, e2] at hit'
    refine hQ _ _ ⟨_, ?_, rfl⟩ ⟨hit', ?_⟩ ⟨fun b o hb e => hs'.extBut b o (fun z => hb (by simp [z])) e, rfl, rfl, rfl, ?_⟩
    all_goals have := st.2; first | omega | (show _ ≤ _; omega) | simp
  · exact wpAny_pyNext_range_end hh st.1 (by omega) fun h' he' => hQ _ ⟨fun b o hb e => he' b o (fun z => hb (by simp [z])) e, rfl, rfl, rfl, Nat.le_refl _⟩
  · exact wpAny_pyIter_rangeiter st.1 hQ
/-- the object that a range's cursor is -/
abbrev rgCur (a b c : Int) : Obj := { cls := .type "range_iterator", data := .fields #[rawInt a, rawInt (Builtin.Range.rangeSize a b c), rawInt c] }
/-- a new list is filled from a range -/
theorem ext_rgT {R : Result → Shared → Prop} {r : Addr} {a b c : Int} {t u v : Tok} {n : Nat} (hh : A.handled = none) (hr : IsRange s.heap r a b c t u v) (hs : Builtin.Range.small a b c = true) (hn : Builtin.Range.rangeSize a b c = n) (hl : n ≤ 2 ^ 24)
    (L : Addr) (res : Value) (c₀ : Nat) (hL : s.heap.get? L = some { cls := .type "list", data := .seq #[] c₀ })
    (hR : ∀ h' tk acc' c', (∀ b o, b ≠ L → s.heap.get? b = some o → h'.get? b = some o) → h'.get? L = some { cls := .type "list", dict := none, data := .seq acc' c', slots := #[] } → ItemsOf (fun i v => ∃ t, 1 ≤ t ∧ v = .int (a + i * c) t) acc' n → R (.ok (.ret res)) { s with heap := h', toks := tk }) :
    wpAny (model P w) A.in1 (Builtin.List.listExtendWith (.ref L) (.ref r) res) (fun fin s' => match fin with | .done f => R (.ok f) s' | .again c' => c'.quiet = true ∧ codeAny (model P w) A c' R s') (fun e s' => R (.error e) s') s := by
  have nLr : L ≠ r := fun e => by rw [e, hr] at hL; simp at hL
  have ltL : L < s.heap.objs.size := Heap.lt_size hL
  have nLJ : L ≠ s.heap.objs.size := Nat.ne_of_lt ltL
  have W := rgT (P := P) (w := w) (A := A.in1) hh s.heap.objs.size a c n
  have go : ∀ (h : Heap) (c₁ tk : Nat), 1 ≤ tk → IsRangeIter h s.heap.objs.size (a + ((0 : Nat) : Int) * c) ((n : Int) - ((0 : Nat) : Int)) c → (∀ b o, b ≠ L → s.heap.get? b = some o → h.get? b = some o) → h.get? L = some { cls := .type "list", data := .seq #[] c₁ } →
      codeAny (model P w) A (.builtin "list.extend.loop" ⟨[.ref L, .ref s.heap.objs.size, res], []⟩) R { s with heap := h, toks := tk } := by
    intro h c₁ tk h1 hit hk hL₁
    refine codeAny_extend_loopS W (by rw [sizeLine_eq]; omega) L (fun z => nLJ (List.mem_singleton.mp z)) res n 0 _ #[] c₁ rfl (Nat.zero_le _) ⟨hit, h1⟩ hL₁ (ItemsOf.nil _) fun s' acc' c' mv hL' hacc => ?_
    rw [Moved.eq_with mv]
    refine hR _ _ acc' c' (fun b o hb e => mv.heap b o (fun hm => ?_) (hk b o hb e)) hL' hacc
    rcases List.mem_cons.mp hm with z | hm
    · exact hb z
    · rw [List.mem_singleton.mp hm] at e; exact absurd (Heap.lt_size e) (Nat.lt_irrefl _)
  unfold Builtin.List.listExtendWith; refine wpAny_bind (wpAny_typeOf (T := "range") ⟨_, hr, rfl⟩ ?_)
  simp only [show Builtin.List.listSameRef (.ref L) (.ref r) = false by simp [Builtin.List.listSameRef, nLr], show (Value.type "range" == Value.type "list") = false by decide, show (Value.type "range" == Value.type "tuple") = false by decide, Bool.or_false, Bool.false_eq_true, if_false]
  refine wpAny_bind (wpAny_pyIter_range hr hs (wpAny_bind (wpAny_holding (wpAny_hint_range (n := n) (Heap.get?_push_of_some _ hr) hn hl ?_))))
  have it₁ : IsRangeIter (s.heap.push (rgCur a b c)) s.heap.objs.size (a + ((0 : Nat) : Int) * c) ((n : Int) - ((0 : Nat) : Int)) c := by
    rw [← hn]; simpa using Heap.get?_push_size s.heap (o := rgCur a b c) rfl
  have hL₁ := Heap.get?_push_of_some (rgCur a b c) hL
  have one : 1 ≤ s.toks + 1 + 1 := by omega
  refine wpAny_ite_split (fun _ => ?_) fun _ => wpAny_pure ⟨plainId_quiet F.plain_extend_loop _, go _ c₀ _ one it₁ (fun b o _ e => Heap.get?_push_of_some _ e) hL₁⟩
  refine wpAny_bind (wpAny_rule (wpAny_bind ?_))
  show wpAny _ _ (updateSeq L (·.push .none) >>= fun _ => updateSeq L (·.pop)) _ _ _; refine wpAny_bind (wpAny_updateSeq hL₁ rfl ?_)
  have hL₂ := Heap.get?_update_self (Obj.mapSeq (·.push Value.none)) hL₁ rfl
  refine wpAny_updateSeq (hz := by seq_fits) hL₂ rfl (wpAny_pure ⟨plainId_quiet F.plain_extend_loop _, go _ _ _ one ?_ (fun b o hb e => ?_) (Heap.get?_update_self (Obj.mapSeq (·.pop)) hL₂ rfl)⟩)
  · exact (Heap.get?_update_other _ _ nLJ).trans <| (Heap.get?_update_other _ _ nLJ).trans it₁
  · exact (Heap.get?_update_other _ _ hb.symm).trans <| (Heap.get?_update_other _ _ hb.symm).trans (Heap.get?_push_of_some _ e)
theorem init_rgT {R : Result → Shared → Prop} {r : Addr} {a b c : Int} {t u v : Tok} {n : Nat} (hh : A.handled = none) (hr : IsRange s.heap r a b c t u v) (hs : Builtin.Range.small a b c = true) (hn : Builtin.Range.rangeSize a b c = n) (hl : n ≤ 2 ^ 24)
    (L : Addr) (hL : s.heap.get? L = some { cls := .type "list", data := .seq #[] })
    (hR : ∀ h' tk acc' c', (∀ b o, b ≠ L → s.heap.get? b = some o → h'.get? b = some o) → h'.get? L = some { cls := .type "list", dict := none, data := .seq acc' c', slots := #[] } → ItemsOf (fun i v => ∃ t, 1 ≤ t ∧ v = .int (a + i * c) t) acc' n → R (.ok (.ret .none)) { s with heap := h', toks := tk }) :
    wpAny (model P w) A.in1 (Builtin.«list.__init__» ⟨[.ref L, .ref r], []⟩) (fun fin s' => match fin with | .done f => R (.ok f) s' | .again c' => c'.quiet = true ∧ codeAny (model P w) A c' R s') (fun e s' => R (.error e) s') s := by
  have nLr : L ≠ r := fun e => by rw [e, hr] at hL; simp at hL
  show wpAny _ _ (do let was ← Builtin.List.listItems (.ref L); Builtin.List.listUpdate (.ref L) (fun _ => #[]); letGo was.toList.reverse; Builtin.List.listExtendWith (.ref L) (.ref r) .none) _ _ s
  refine wpAny_bind ?_
  unfold Builtin.List.listItems; refine wpAny_bind (wpAny_seqItems hL rfl (wpAny_pure ?_))
  show wpAny _ _ (updateSeq L (fun _ => #[]) >>= fun _ => letGo (#[] : Array Value).toList.reverse >>= fun _ => Builtin.List.listExtendWith (.ref L) (.ref r) .none) _ _ s
  refine wpAny_bind (wpAny_updateSeq hL rfl ?_)
  have oth : ∀ b o, b ≠ L → s.heap.get? b = some o → (s.heap.update L (Obj.mapSeq fun _ => (#[] : Array Value))).get? b = some o := fun b o hb e => (Heap.get?_update_other _ _ hb.symm).trans e
  refine wpAny_bind (wpAny_letGo (ext_rgT hh (oth r _ nLr.symm hr) hs hn hl L .none _ (Heap.get?_update_self (Obj.mapSeq fun _ => (#[] : Array Value)) hL rfl) fun h' tk acc' c' hk hL' hacc => ?_))
  exact hR h' tk acc' c' (fun b o hb e => hk b o hb (oth b o hb e)) hL' hacc
theorem list_rgT {Q : Value → Shared → Prop} {r : Addr} {a b c : Int} {t u v : Tok} {n : Nat} (hh : A.handled = none) (hr : IsRange s.heap r a b c t u v) (hs : Builtin.Range.small a b c = true) (hn : Builtin.Range.rangeSize a b c = n) (hl : n ≤ 2 ^ 24)
    (hQ : ∀ h' tk acc' c', (∀ b o, s.heap.get? b = some o → h'.get? b = some o) → h'.get? s.heap.objs.size = some { cls := .type "list", dict := none, data := .seq acc' c', slots := #[] } → ItemsOf (fun i v => ∃ t, 1 ≤ t ∧ v = .int (a + i * c) t) acc' n → Q (.ref s.heap.objs.size) { s with heap := h', toks := tk }) :
    wpAny (model P w) A (call (.type "list") [.ref r]) Q E s := by
  refine callType_codes (F.called_list) (F.typeCall_list_1 _) (Q₁ := fun ob s₁ => ob = .ref s.heap.objs.size ∧ s₁ = { s with heap := s.heap.push { cls := .type "list", data := .seq #[] } }) F.entry_list_init (code_list_new _ ⟨rfl, rfl⟩) fun ob s₁ h₁ => ?_
  obtain ⟨rfl, rfl⟩ := h₁
  have hL := Heap.get?_push_size s.heap (o := { cls := .type "list", data := .seq #[] }) rfl
  refine ⟨⟨_, hL, rfl⟩, F.args_list_init_2 _ _, init_rgT (A := A.in1) hh (Heap.get?_push_of_some _ hr) hs hn hl _ hL fun h' tk acc' c' hk hL' hacc => ⟨rfl, ?_⟩⟩
  exact hQ h' tk acc' c' (fun b o e => hk b o (Nat.ne_of_lt (Heap.lt_size e)) (Heap.get?_push_of_some _ e)) hL' hacc
end
section
variable {X : Cx}
def tLstRgC (X : Cx) (te : L2.St → Hp → (Int → Int → Hp → Prop) → Prop) : TE := fun σ H Q => te σ H fun a b H1 => RgOk a b ∧ NewC X (rgV a b) H1 Q
theorem pe_listRgC {e : Expr} {te : L2.St → Hp → (Int → Int → Hp → Prop) → Prop} {p pos : Pos} (hc : X.calm = true) (hg : Gl X "list") (hm : X.mg "list" = none) (he : PRg X e te) (na : starEach [e] X.env = (false, eval e X.env) :: starEach [] X.env := by rfl) : PE X (.Call (.Name "list" p) [e] [] pos) (tLstRgC X te) := by
  refine ⟨fun pins s σ H Q I h => Call_ (ld_blt I hg hm boot_list (PyProof.Rows.callWith_type1 (args_cons (thn (he pins s σ H _ I h) fun x s1 z => args_nil ?_) na) na))⟩
  obtain ⟨r, a, b, t, u, v, H1, rfl, hr, I1, ⟨b1, b2, b3, b4, b5⟩, q⟩ := z
  refine list_rgT (n := (b - a).toNat) (I1.ok.hd hc) hr (small_one b1 b2 b3 b4) (rangeSize_nat a b) b5 fun h' tk acc c' hk e' hi => ?_
  have hi' : ItemsOf (fun i v => ∃ t, v = .int (a + i * 1) t) acc (b - a).toNat := ⟨hi.1, fun j v hj => let ⟨t, _, e⟩ := hi.2 j v hj; ⟨t, e⟩⟩
  refine newC_at (its := acc.toList) (n := c') (t' := tk) I1 hk (Nat.le_refl _) (by rw [rgV_length, sizeLine_eq]; omega) (vals_rg hi') (fun v hv => ?_) (by rw [Array.toArray_toList]; exact e') q
  obtain ⟨j, hj, ev⟩ := List.getElem_of_mem hv
  obtain ⟨t, ht, rfl⟩ := hi.2 j v (by rw [← Array.getElem?_toList, List.getElem?_eq_getElem hj, ev])
  exact cl_tok1 ht
end
end RFI
end
-- part P5D
section
set_option Elab.async false
set_option linter.all false
set_option maxRecDepth 100000
set_option maxHeartbeats 4000000
namespace K5
open PySem PySem.Spec PyProof.Rows L2 RFI K1 ZG CwR K2
abbrev nOf : List Str := ["word", "number", "ways", "left", "order", "rank", "letter"]
theorem scOf : FnScope nOf ["word", "number"] (defScope sOf) := ⟨rfl, rfl, rfl, by decide +kernel, rfl, by decide +kernel, by decide +kernel⟩
theorem seek_steps : ∀ (ws : List Int) (x : Int) (j : Nat), j < (seek ws x).1 → ∃ w, ws[j]? = some w ∧ w ≤ x - (ws.take j).sum
  | [], x, j, h => absurd h (Nat.not_lt_zero j)
  | w :: ws, x, j, h => by
    unfold seek at h
    split at h
    · rename_i hw
      cases j with
      | zero => exact ⟨w, rfl, by show w ≤ x - 0; omega⟩
      | succ j =>
        obtain ⟨v, e, hv⟩ := seek_steps ws (x - w) j (Nat.lt_of_succ_lt_succ h)
        refine ⟨v, e, ?_⟩
        rw [List.take_succ_cons, List.sum_cons]
        omega
    · exact absurd h (Nat.not_lt_zero j)
theorem map_erase : ∀ (xs : List Int) (k : Nat), (xs.map V.int).eraseIdx k = (xs.eraseIdx k).map V.int
  | [], _ => rfl
  | _ :: _, 0 => rfl
  | x :: xs, k + 1 => congrArg (V.int x :: ·) (map_erase xs k)
theorem letter_get {l : List Bool} {i : Nat} {b : Bool} (h : (false :: l)[i]? = some b) : letterAt l i = b := by
  unfold letterAt
  rw [List.getD_eq_getElem?_getD, h]
  rfl
theorem wd_d (l : List Bool) : (("d" : Str) ++ wd l) = wd (false :: l) := by
  have e : ("d" : Str) = wd [false] := by decide +kernel
  rw [e, wd_app]
  rfl
section
variable {P : Program} {w : World} {K : PySem.W.Frag} {mg : Str → Option Value} {base : Heap}
/-- order_of -/
def spOf (K : PySem.W.Frag) : Sp := fun vs H Q _ => ∃ (l : List Bool) (x : Int), vs = [.str (wd l), .int x] ∧ l.length ≤ 800 ∧ 0 ≤ x ∧ x < RF.cnt l ∧
  ∀ H' p o, Same H H' → H p = none → H' p = some (.frz o (.lst ((orderOf l x).map V.int))) → ClO o → Q (.ref p) H'
theorem ok_of {f fW fA fN fL fS : Addr} {fd fdW fdA fdN fdL fdS : FuncData} (F : Fun K "order_of" "order_of" sOf f fd) (N : Nm mg)
    (FW : Fun K "check_word" "check_word" sCw fW fdW) (bW : Binds K fdW ["word"] []) (gW : mg "check_word" = some (.ref fW))
    (FA : Fun K "ways_ahead" "ways_ahead" sWa fA fdA) (GA : FnOk P w K mg base CX0 3 fA fdA ["word"] (spWa K)) (bA : Binds K fdA ["word"] []) (gA : mg "ways_ahead" = some (.ref fA))
    (FN : Fun K "check_number" "check_number" sCn fN fdN) (GN : FnOk P w K mg base CX0 2 fN fdN ["number", "many"] spCn) (bN : Binds K fdN ["number", "many"] []) (gN : mg "check_number" = some (.ref fN))
    (FL : Fun K "least_rank" "least_rank" sLr fL fdL) (bL : Binds K fdL ["letter", "rank"] []) (gL : mg "least_rank" = some (.ref fL))
    (FS : Fun K "ways_shorter" "ways_shorter" sWs fS fdS) (bS : Binds K fdS ["ways"] []) (gS : mg "ways_shorter" = some (.ref fS)) : FnOk P w K mg base CX0 4 f fd ["word", "number"] (spOf K) := by
  have GW : FnOk P w K mg base CX0 1 fW fdW ["word"] spCw := ok_cw FW N
  have GL : FnOk P w K mg base CX0 1 fL fdL ["letter", "rank"] spLr := ok_lr FL
  have GS : FnOk P w K mg base CX0 1 fS fdS ["ways"] (spWs K) := ok_ws FS N
  refine F.ok scOf (fun vs H Q E h => ?_) (fun cdv A outer s H vs Q E hr h => ?_)
  · obtain ⟨l, x, rfl, _⟩ := h
    rfl
  · obtain ⟨l, x, rfl, hl, h0, h1, q⟩ := h
    have nd := scOf.nd
    have hr1 := hr.mono (show 1 ≤ 3 by decide)
    have hr2 := hr.mono (show 2 ≤ 3 by decide)
    refine ⟨_, pss_cons (ps_expr (pe_call GW hr1 (by rfl) gW FW.kp bW .nil pass0 (pa_cons (pv 0) pa_nil)))
      (pss_cons (ps_set (i := 2) nd rfl (.inl rfl) (pe_call GA hr (by rfl) gA FA.kp bA .nil pass0 (pa_cons (pv 0) pa_nil)))
      (pss_cons (ps_expr (pe_call GN hr2 (by rfl) gN FN.kp bN .nil pass0 (pa_cons (pv 1) (pa_cons (pe_callB (cr_sum rfl) (by rfl) N.sum (by decide +kernel) (pa_cons (pv 2) pa_nil)) pa_nil))))
      (pss_cons (ps_set (i := 3) nd rfl (.inl rfl) (pe_listRgC rfl (by rfl) N.list (prg_1 (by rfl) N.range (pe_op op_add (pe_callB call_len_str (by rfl) N.len PySem.boot_len (pa_cons (pv 0) pa_nil)) pe_int))))
      (pss_cons (ps_set (i := 4) nd rfl (.inl rfl) (pe_lst pa_nil))
      (pss_fix (pss_cons (ps_set (i := 5) nd rfl (.inl rfl) pe_int)
      (pss_cons (ps_for PassesOwn.never rfl (pi_str (pe_op op_add_str pe_str (pv 0))) (pg_name (i := 6) nd rfl (.inl rfl))
        (pss_cons (ps_set (i := 5) nd rfl (.inl rfl) (pe_call GL hr1 (by rfl) gL FL.kp bL .nil pass0 (pa_cons (pv 6) (pa_cons (pv 5) pa_nil))))
        (pss_cons (ps_while PassesOwn.never (pt_cmpR op_ge (pv 1) (pe_ix ix_list (pv 2) (pv 5) (fun _ _ => rfl)) (nomark _))
          (pss_cons (ps_aug (i := 1) nd rfl (.inl rfl) (pe_ix ix_list (pv 2) (pv 5) (fun _ _ => rfl)) ip_sub) (pss_one (ps_aug (i := 5) nd rfl (.inl rfl) pe_int ip_add))))
        (pss_cons (ps_expr (pe_bmA PySem.F.plainAttrs_list PySem.F.slot_list_append PySem.F.type_list_append mt_appA (pv 4) (pac_cons (pec_bm PySem.F.plainAttrs_list PySem.F.slot_list_pop PySem.F.type_list_pop mt_popC (pv 3) (pa_cons (pv 5) pa_nil)) pac_nil)))
        (pss_one (ps_set (i := 2) nd rfl (.inl rfl) (pe_call GS hr1 (by rfl) gS FS.kp bS .nil pass0 (pa_cons (pv 2) pa_nil))))))))
      (pss_one (ps_ret (pv 4)))))))))), ?_⟩
    have hsm : (2000 : Nat) ≤ sizeLine := by decide
    refine ⟨_, rfl, l, rfl, by omega, ?_⟩
    refine ⟨_, rfl, l, rfl, by omega, fun H1 pw S1 nw cw => ?_⟩
    refine ⟨_, rfl, _, rfl, pw, ahead l, rfl, cw.sq, x, _, rfl, h0, by rw [ahead_sum]; exact h1, ?_⟩
    refine ⟨_, rfl, _, rfl, by rw [wd_len]; exact Nat.le_trans (show l.length ≤ 2000 by omega) hsm, _, _, rfl, rfl, _, rfl, ?_, fun L oL nL nfL cL => ?_⟩
    · rw [wd_len]
      exact .of_le (by decide) (by omega) (by decide) (by omega)
    have er : rgV 0 (((wd l).length : Int) + 1) = (upto (l.length + 1)).map V.int := by
      rw [wd_len, ← rgV_upto]
      rfl
    rw [er]
    have S2 := S1.trans (same_upd (o := .frz oL (.lst ((upto (l.length + 1)).map V.int))) nL)
    have cw2 := cw.same (same_upd (o := .frz oL (.lst ((upto (l.length + 1)).map V.int))) nL)
    have eL : upd H1 L (.frz oL (.lst ((upto (l.length + 1)).map V.int))) L = some (.frz oL (.lst ((upto (l.length + 1)).map V.int))) := upd_same
    have nHL : H L = none := S1.free nL
    have nwL : L ≠ pw := cw.ne nL
    generalize upd H1 L (.frz oL (.lst ((upto (l.length + 1)).map V.int))) = H2 at S2 cw2 eL ⊢
    refine ⟨Nat.zero_le _, fun O nO => ⟨O, [], upd_same, fun z hz => (by cases hz), fun oO cO nfO => ?_⟩⟩
    rw [upd_upd]
    have nHO : H O = none := S2.free nO
    have nLO : L ≠ O := ne_of_none eL nO
    have nwO : O ≠ pw := cw2.ne nO
    have S3 := S2.trans (same_upd (o := .frz oO (.lst [])) nO)
    have cw3 := cw2.same (same_upd (o := .frz oO (.lst [])) nO)
    have eL3 := same_upd (o := .frz oO (.lst [])) nO _ _ eL
    have eO3 : upd H2 O (.frz oO (.lst [])) O = some (.frz oO (.lst [])) := upd_same
    generalize upd H2 O (.frz oO (.lst [])) = H3 at S3 cw3 eL3 eO3 ⊢
    refine ⟨_, rfl, _, _, rfl, rfl, ?_, ?_⟩
    · rw [wd_len]
      exact Nat.le_trans (show 1 + l.length ≤ 2000 by omega) hsm
    rw [wd_d]
    refine ⟨_, rfl, for_word (l := false :: l) (fun i σ H4 => ∃ (p : Addr) (v6 : Option V) (oL oO : Obj), σ = [some (.str (wd l)), some (.int (oRun l x i).x), some (.ref p), some (.ref L), some (.ref O), some (.int ((oRun l x i).r : Nat)), v6] ∧ Same H H4 ∧ (i ≤ l.length → Cw K H4 p (ahead (l.drop i))) ∧ p ≠ L ∧ p ≠ O ∧
        H4 L = some (.frz oL (.lst ((oRun l x i).lf.map V.int))) ∧ ClO oL ∧ H4 O = some (.frz oO (.lst ((oRun l x i).o.map V.int))) ∧ ClO oO)
      ⟨pw, none, oL, oO, rfl, S3, fun _ => cw3, nwL.symm, nwO.symm, eL3, cL, eO3, cO⟩ (fun i b σ H4 hb hW => ?_) (fun σ H4 hW => ?_)⟩
    · obtain ⟨p, v6, oL, oO, rfl, S4, hw, npL, npO, eL4, cL4, eO4, cO4⟩ := hW
      have hi : i ≤ l.length := by
        have := (List.getElem?_eq_some_iff.mp hb).1
        rw [List.length_cons] at this
        omega
      have hlet := letter_get hb
      have I := oInv_all h0 h1 i (by omega)
      have St := oStep I hi
      have cwi := hw hi
      have hWl : (ahead (l.drop i)).length ≤ 900 := by rw [ahead_len, List.length_drop]; omega
      refine ⟨_, rfl, _, rfl, b, (oRun l x i).r, rfl, ?_⟩
      -- the rank sought
      obtain ⟨w, hw1, hx1, hx2⟩ := St.w
      have hge := St.ge
      have hk := St.k
      have ex : (oNext l i (oRun l x i)).x = (oRun l x i).x - (((ahead (l.drop i)).drop (startOf (letterAt l i) (oRun l x i).r)).take (seek ((ahead (l.drop i)).drop (startOf (letterAt l i) (oRun l x i).r)) (oRun l x i).x).1).sum := seek_sum _ _
      have ek : (oNext l i (oRun l x i)).r = startOf (letterAt l i) (oRun l x i).r + (seek ((ahead (l.drop i)).drop (startOf (letterAt l i) (oRun l x i).r)) (oRun l x i).x).1 := rfl
      have steps := seek_steps ((ahead (l.drop i)).drop (startOf (letterAt l i) (oRun l x i).r)) (oRun l x i).x
      rw [hlet] at ex ek steps
      generalize hd : (seek ((ahead (l.drop i)).drop (startOf b (oRun l x i).r)) (oRun l x i).x).1 = d at ex ek steps
      generalize hst : startOf b (oRun l x i).r = st at ex ek steps ⊢
      have hd' : st + d < (ahead (l.drop i)).length := by rw [← ek]; exact (List.getElem?_eq_some_iff.mp hw1).1
      refine ⟨fun m σ H5 => ∃ j, m = d - j ∧ j ≤ d ∧ σ = [some (.str (wd l)), some (.int ((oRun l x i).x - (((ahead (l.drop i)).drop st).take j).sum)), some (.ref p), some (.ref L), some (.ref O), some (.int ((st + j : Nat))), some (.str (wd [b]))] ∧ H5 = H4, ⟨d, 0, rfl, Nat.zero_le _, ?_, rfl⟩, ?_⟩
      · rw [List.take_zero]
        show _ = [_, some (V.int ((oRun l x i).x - 0)), _, _, _, _, _]
        rw [Int.sub_zero]
        rfl
      rintro m σ H5 ⟨j, rfl, hj, rfl, rfl⟩
      have hat : ∃ v, (ahead (l.drop i))[st + j]? = some v ∧ atI ((ahead (l.drop i)).map V.int) ((st + j : Nat) : Int) = some (V.int v) := by
        have hlt : st + j < (ahead (l.drop i)).length := by omega
        exact ⟨_, List.getElem?_eq_getElem hlt, atI_nat (by rw [List.getElem?_map, List.getElem?_eq_getElem hlt]; rfl)⟩
      obtain ⟨v, ev, hat⟩ := hat
      refine ⟨_, rfl, _, rfl, _, rfl, p, _, _, _, rfl, rfl, cwi.sq, hat, _, _, rfl, rfl, _, rfl, ?_⟩
      by_cases hjd : j < d
      · -- more is sought
        obtain ⟨v', ev', hle⟩ := steps j hjd
        rw [List.getElem?_drop, ev] at ev'
        obtain rfl : v = v' := Option.some.inj ev'
        rw [decide_eq_true hle]
        refine iteT ⟨fun σ' H' => ∃ m', m' < d - j ∧ ∃ j', m' = d - j' ∧ j' ≤ d ∧ σ' = [some (.str (wd l)), some (.int ((oRun l x i).x - (((ahead (l.drop i)).drop st).take j').sum)), some (.ref p), some (.ref L), some (.ref O), some (.int ((st + j' : Nat))), some (.str (wd [b]))] ∧ H' = H5, fun σ' H' h => h, ?_⟩
        refine ⟨_, rfl, _, rfl, _, rfl, p, _, _, _, rfl, rfl, cwi.sq, hat, _, _, rfl, rfl, _, rfl, _, _, rfl, rfl, d - (j + 1), by omega, j + 1, rfl, hjd, ?_, rfl⟩
        have e1 : (((ahead (l.drop i)).drop st).take (j + 1)).sum = (((ahead (l.drop i)).drop st).take j).sum + v := by
          rw [List.take_add_one, List.getElem?_drop, ev, List.sum_append]
          show _ + (v + 0) = _
          omega
        rw [e1]
        have e2 : (oRun l x i).x - ((((ahead (l.drop i)).drop st).take j).sum + v) = (oRun l x i).x - (((ahead (l.drop i)).drop st).take j).sum - v := by omega
        rw [e2]
        rfl
      · -- found
        have e : j = d := by omega
        subst e
        rw [← ek] at ev
        obtain rfl : v = w := Option.some.inj (ev.symm.trans hw1)
        have hn : ¬ (v ≤ (oRun l x i).x - (((ahead (l.drop i)).drop st).take j).sum) := by
          rw [← ex]
          omega
        rw [decide_eq_false hn]
        refine iteF ?_
        have ey : (oRun l x i).lf[st + j]? = some ((oRun l x i).lf.getD (st + j) 0) := by
          rw [List.getD_eq_getElem?_getD, List.getElem?_eq_getElem (by rw [← ek]; exact hk)]
          rfl
        refine ⟨_, rfl, .inl ⟨rfl, _, .inl (.inr ⟨_, eO4⟩)⟩, _, rfl, .inl ⟨rfl, _, .inl (.inr ⟨_, eL4⟩)⟩, _, rfl, L, _, oL, _, st + j, _, rfl, rfl, rfl, eL4, cL4, nfL, by rw [List.getElem?_map, ey]; rfl, fun oL' cL' => ?_⟩
        refine ⟨O, _, oO, _, rfl, rfl, by rw [upd_ne nLO.symm]; exact eO4, cO4, nfO, ?_, fun oO' cO' => ?_⟩
        · rw [List.length_map, o_len]
          exact Nat.lt_of_lt_of_le (show i < 2000 by omega) hsm
        have U : ∀ b2 o2, b2 ≠ L → b2 ≠ O → H5 b2 = some o2 → upd (upd H5 L (.frz oL' (.lst (((oRun l x i).lf.map V.int).eraseIdx (st + j))))) O (.frz oO' (.lst ((oRun l x i).o.map V.int ++ [V.int ((oRun l x i).lf.getD (st + j) 0)]))) b2 = some o2 := fun b2 o2 z1 z2 e => by
          rw [upd_ne z2, upd_ne z1]
          exact e
        have cwU : Cw K (upd (upd H5 L (.frz oL' (.lst (((oRun l x i).lf.map V.int).eraseIdx (st + j))))) O (.frz oO' (.lst ((oRun l x i).o.map V.int ++ [V.int ((oRun l x i).lf.getD (st + j) 0)])))) p (ahead (l.drop i)) := by
          refine cwi.move fun o e _ => ?_
          exact U _ _ npL npO e
        have eLU : upd (upd H5 L (.frz oL' (.lst (((oRun l x i).lf.map V.int).eraseIdx (st + j))))) O (.frz oO' (.lst ((oRun l x i).o.map V.int ++ [V.int ((oRun l x i).lf.getD (st + j) 0)]))) L = some (.frz oL' (.lst (((oRun l x i).lf.eraseIdx (st + j)).map V.int))) := by
          rw [upd_ne nLO, upd_same, map_erase]
        have eOU : upd (upd H5 L (.frz oL' (.lst (((oRun l x i).lf.map V.int).eraseIdx (st + j))))) O (.frz oO' (.lst ((oRun l x i).o.map V.int ++ [V.int ((oRun l x i).lf.getD (st + j) 0)]))) O = some (.frz oO' (.lst (((oRun l x i).o ++ [(oRun l x i).lf.getD (st + j) 0]).map V.int))) := by
          rw [upd_same, List.map_append]
          rfl
        have SU : Same H (upd (upd H5 L (.frz oL' (.lst (((oRun l x i).lf.map V.int).eraseIdx (st + j))))) O (.frz oO' (.lst ((oRun l x i).o.map V.int ++ [V.int ((oRun l x i).lf.getD (st + j) 0)])))) := fun b2 o2 e => U _ _ (ne_of_none e nHL) (ne_of_none e nHO) (S4 _ _ e)
        generalize upd (upd H5 L (.frz oL' (.lst (((oRun l x i).lf.map V.int).eraseIdx (st + j))))) O (.frz oO' (.lst ((oRun l x i).o.map V.int ++ [V.int ((oRun l x i).lf.getD (st + j) 0)]))) = H6 at cwU eLU eOU SU ⊢
        refine ⟨_, rfl, p, _, rfl, cwU, by omega, fun H7 p7 S7 n7 c7 => ?_⟩
        have es : oRun l x (i + 1) = ⟨(oRun l x i).o ++ [(oRun l x i).lf.getD (st + j) 0], (oRun l x i).lf.eraseIdx (st + j), st + j, (oRun l x i).x - (((ahead (l.drop i)).drop st).take j).sum⟩ := by
          show oNext l i (oRun l x i) = _
          rw [← ex, ← ek]
          rfl
        rw [es]
        refine ⟨p7, _, oL', oO', rfl, SU.trans S7, fun hi' => ?_, ?_, ?_, S7 _ _ eLU, cL', S7 _ _ eOU, cO'⟩
        · have hlt : i < l.length := by omega
          rw [List.drop_eq_getElem_cons hlt, shorter] at c7
          exact c7
        · exact (ne_of_none eLU n7).symm
        · exact (ne_of_none eOU n7).symm
    · obtain ⟨p, v6, oL, oO, rfl, S4, _, _, _, _, _, eO4, cO4⟩ := hW
      rw [List.length_cons] at eO4
      exact ⟨_, rfl, q H4 O oO S4 nHO eO4 cO4⟩
end
end K5
end
-- part K5D
section
set_option Elab.async false
set_option linter.all false
set_option maxRecDepth 100000
set_option maxHeartbeats 4000000
namespace K5
open PySem PySem.Spec PyProof.Rows L2 RFI K1 ZG
abbrev nFa : List Str := ["_law_script", "_law_by", "_law_most", "_law_found", "_law_k"]
theorem scFa : FnScope nFa ["_law_script", "_law_by", "_law_most"] (defScope sFa) := ⟨rfl, rfl, rfl, by decide +kernel, rfl, by decide +kernel, by decide +kernel⟩
section
variable {P : Program} {w : World} {K : PySem.W.Frag} {mg : Str → Option Value} {base : Heap}
def spFa (K : PySem.W.Frag) : Sp := fun vs H Q _ => ∃ (a : Addr) (ns : List Int) (b : Nat) (m : Int), vs = [.ref a, .int (b : Nat), .int m] ∧ SqL K H a (ns.map V.int) ∧ ns.length ≤ 1000 ∧ b ≤ 10 ∧ 0 < m ∧ ∀ r H', 0 ≤ r → r < m → Same H H' → Q (.int r) H'
theorem ok_fa {f fD : Addr} {fd fdD : FuncData} (F : Fun K "_law_far" "_law_far" sFa f fd) (N : Nm mg) (FD : Fun K "_law_draw" "_law_draw" sDr fD fdD) (bD : Binds K fdD ["_law_cell", "_law_k", "_law_many"] []) (gD : mg "_law_draw" = some (.ref fD)) :
    FnOk P w K mg base CX0 2 f fd ["_law_script", "_law_by", "_law_most"] (spFa K) := by
  have GD : FnOk P w K mg base CX0 1 fD fdD ["_law_cell", "_law_k", "_law_many"] spDr := ok_dr FD N
  refine F.ok scFa (fun vs H Q E h => ?_) (fun cdv A outer s H vs Q E hr h => ?_)
  · obtain ⟨a, ns, b, m, rfl, _⟩ := h
    rfl
  · obtain ⟨a, ns, b, m, rfl, hA, hn, hb, hm, q⟩ := h
    have nd := scFa.nd
    refine ⟨_, pss_cons (ps_set (i := 3) nd rfl (.inl rfl) pe_int)
      (pss_cons (ps_for PassesOwn.never rfl (pi_range1 (by rfl) N.range (pa_cons (pe_callB call_len_seq (by rfl) N.len PySem.boot_len (pa_cons (pv 0) pa_nil)) pa_nil)) (pg_name (i := 4) nd rfl (.inl rfl))
        (pss_one (ps_set (i := 3) nd rfl (.inl rfl) (pe_op op_add (pe_op op_add (pe_op op_mul (pv 3) pe_int) (pe_op op_fdiv (pe_ix ix_list (pv 0) (pv 4) (fun _ _ => rfl)) pe_int))
          (pe_call GD hr (by rfl) gD FD.kp bD .nil pass0 (pa_cons (pe_ix ix_list (pv 0) (pv 4) (fun _ _ => rfl)) (pa_cons (pe_op op_add (pe_op op_mod (pv 4) pe_int) (pv 1)) (pa_cons pe_int pa_nil))))))))
      (pss_one (ps_ret (pe_op op_modN (pv 3) (pv 2))))), ?_⟩
    refine ⟨_, rfl, a, _, rfl, .inl hA, _, rfl, by omega, by rw [List.length_map]; omega, for_range (n := (((ns.map V.int).length : Nat) : Int).toNat) (fun i σ H' => ∃ (z : Int) (v4 : Option V), σ = [some (.ref a), some (.int (b : Nat)), some (.int m), some (.int z), v4] ∧ Same H H')
      ⟨0, _, rfl, fun _ _ e => e⟩ (fun i σ H' hi hW => ?_) (fun σ H' hW => ?_)⟩
    · obtain ⟨z, v4, rfl, s'⟩ := hW
      rw [Int.toNat_natCast, List.length_map] at hi
      have hat : atI (ns.map V.int) (0 + (i : Int)) = some (V.int ns[i]) := by rw [Int.zero_add]; exact atI_nat (by simp [hi])
      refine ⟨_, rfl, _, _, rfl, rfl, .inr ⟨by decide, by decide⟩, _, rfl, _, rfl, a, _, _, _, rfl, rfl, s'.seq hA, hat, _, _, rfl, rfl, (show CDiv _ 11 from ⟨by decide, by decide⟩), _, _, rfl, rfl, ?_⟩
      refine ⟨_, rfl, _, rfl, a, _, _, _, rfl, rfl, s'.seq hA, hat, _, rfl, _, _, rfl, rfl, (show (0 : Int) < 3 by decide), _, rfl, _, _, rfl, rfl, ?_⟩
      refine ⟨ns[i], i % 3 + b, 1000003, ?_, by omega, by decide, fun r H2 r0 r1 s2 => ?_⟩
      · have e : (0 + (i : Int)) % 3 + (b : Nat) = ((i % 3 + b : Nat) : Int) := by omega
        show [V.int _, V.int ((0 + (i : Int)) % 3 + (b : Nat)), V.int _] = _
        rw [e]
      · exact ⟨_, _, rfl, rfl, _, _, rfl, s'.trans s2⟩
    · obtain ⟨z, v4, rfl, s'⟩ := hW
      refine ⟨_, rfl, _, rfl, _, _, rfl, rfl, Int.ne_of_gt hm, q _ _ ?_ ?_ s'⟩
      · rw [Int.fmod_eq_emod_of_nonneg _ (Int.le_of_lt hm)]; exact Int.emod_nonneg _ (Int.ne_of_gt hm)
      · exact Int.fmod_lt_of_pos _ hm
end
end K5
end
-- part RZ
section
set_option Elab.async false
set_option linter.all false
set_option maxRecDepth 100000
set_option maxHeartbeats 2000000
/-! The end of a law row whose script's own object is known: its numbers are no raw marks. -/
namespace RFI
open PySem PySem.Spec PySem.Calls PyProof.Rows L2 PySem.W
theorem lay_toks {R : WRecords} {cl : Str → Option Addr} {P : Params} {ord : List DictEntry → List DictEntry} : ∀ (ns : List Int) (s : Shared) (r : List Value × Shared), layAllW R cl P ord (ns.map WData.int) s = some r → r.2.heap = s.heap ∧ ∀ v ∈ r.1, ∃ i t, v = .int i t ∧ s.toks ≤ t
  | [], s, r, e => by
    have : layAllW R cl P ord (List.map WData.int []) s = some ([], s) := by simp [layAllW]
    rw [this] at e
    cases e
    exact ⟨rfl, fun v hv => by cases hv⟩
  | n :: ns, s, r, e => by
    simp only [List.map_cons, layAllW, layW] at e
    cases q : layAllW R cl P ord (List.map WData.int ns) { s with toks := s.toks + 1 } with
    | none => rw [q] at e; cases e
    | some r' =>
      rw [q] at e
      cases e
      obtain ⟨h1, h2⟩ := lay_toks ns { s with toks := s.toks + 1 } r' q
      refine ⟨h1, fun v hv => ?_⟩
      rcases List.mem_cons.mp hv with hv | hv
      · exact ⟨n, s.toks, hv, Nat.le_refl _⟩
      · obtain ⟨i, t, e1, e2⟩ := h2 v hv
        exact ⟨i, t, e1, Nat.le_of_succ_le e2⟩
theorem script_own {R : WRecords} {w : World} {s₀ s₁ : Shared} {ns : List Int} {a : Addr} {as : List Addr} {vs : List Value} (L : Laid R w s₀ s₁ [WData.list (ns.map WData.int)] [.ref a] as) (hL : s₁.heap.get? a = some { cls := .type "list", data := .seq vs.toArray }) :
    a = s₀.heap.objs.size ∧ ∀ v ∈ vs, ∃ i t, v = .int i t ∧ s₀.toks ≤ t := by
  obtain ⟨ord, _, e⟩ := L.laid
  simp only [layAllW, layW] at e
  cases q : layAllW R (classAt s₀.heap) w.params ord (List.map WData.int ns) s₀ with
  | none => rw [q] at e; cases e
  | some r =>
    rw [q] at e
    obtain ⟨hh, ht⟩ := lay_toks ns s₀ r q
    simp only [Option.some.injEq, Prod.mk.injEq, List.cons.injEq, Value.ref.injEq] at e
    obtain ⟨⟨ea, _⟩, es⟩ := e
    have g : s₁.heap.get? a = some { cls := .type "list", data := .seq r.1.toArray } := by
      rw [← es, ← ea]
      exact Heap.get?_push_size _ rfl
    rw [hL] at g
    have g' := Option.some.inj g
    have g2 : vs.toArray = r.1.toArray := by
      have := congrArg Obj.data g'
      simpa using this
    have g3 : vs = r.1 := by simpa using g2
    refine ⟨by rw [← ea, hh], fun v hv => ht v (by rw [← g3]; exact hv)⟩
theorem cl_tok {v : Value} {i : Int} {t k : Nat} (e : v = .int i t) (h : k ≤ t) (hk : 0 < k) : Cl v := cl_of fun z => by
  rw [e] at z
  injection z with _ z2
  have z3 : t = 0 := z2
  omega
theorem attachX {l : OpenLaw} {n N t : Nat} {q : Program} {loose : List Str} {XP : (Str → Option Value) → Heap → Prop} {K : Params → Frag} {as : List Addr} {d : DefRec}
    (hn : l.most = some n) (hdf : d.params.defaults = []) (ek : ∀ P, as = (K P).map (·.1)) (ht : 0 < t)
    (call : ∀ (w : World) (s₁ : Shared) (mg mb : Str → Option Value) (fa : Addr) (o : Obj) (pm cd doc : Value) (a : Addr) (vs : List Value) (ns : List Int) (s₀ : Shared),
      Ground q loose [] XP w s₀ mg mb s₁.heap → (K w.params).In s₁.heap → (K w.params).lookup a = none → (∀ v ∈ vs, Cl v) →
      s₁.heap.get? fa = some o → o.data = .func (docDef d.name d.params d.body d.scope pm cd doc) → s₁.heap.CodeRec cd d.name → mg d.name = some (.ref fa) →
      s₁.heap.get? a = some { cls := .type "list", data := .seq vs.toArray } → IntsAre vs ns → ns.length ≤ n → (∀ z ∈ ns, Builtin.Int.intBits z ≤ 1048576) → s₁.gens = #[] →
      codeAny (model l.prog w) callerA (.call (.ref fa) ⟨[.ref a], []⟩) (fun r s' => r = .ok (.ret (.bool true)) ∧ OldK s₁.heap s'.heap ∧ s'.os = s₁.os ∧ AllBare s'.gens) s₁) :
    WalkX q loose XP (X.obsZ as) (X.valZ K N t) l.row.toRowW d [] (fun f vs => PySem.call f vs) := by
  intro w s₀ s₁ mg mb G Y fa o pm cd doc dV kV ho hd hcd hD hmg hg args vals as' L hpre hlay hrd hwl hlo
  obtain rfl : dV = .none := Dflts.none hD hdf
  obtain rfl : kV = .none := Dflts.noKw hD
  obtain ⟨a, vs, ns, rfl, rfl, hobj, hints, hlen⟩ := Att.script_of hn hpre hwl
  obtain ⟨_, hK, hN, hT⟩ := X.z_facts ek Y
  obtain ⟨ea, htk⟩ := script_own L hobj
  have hK0 : (K w.params).In s₀.heap := hK
  have hlk : (K w.params).lookup a = none := by
    cases e : (K w.params).lookup a with
    | none => rfl
    | some u =>
      have h1 := Heap.lt_size (hK0 a u e)
      rw [ea] at h1
      exact absurd h1 (Nat.lt_irrefl _)
  have hKX : (K w.params).In s₁.heap := InK.keeps w _ _ hK L.keeps
  have hcl : ∀ v ∈ vs, Cl v := fun v hv => by
    obtain ⟨i, t', e1, e2⟩ := htk v hv
    rw [hT] at e2
    exact cl_tok e1 e2 ht
  refine enter_call (codeAny_mono (call w s₁ mg mb fa o pm cd doc a vs ns s₀ G hKX hlk hcl ho (fd_plain hd) hcd hmg hobj hints hlen (Att.script_bits hlay) hg) fun r s' hq => ?_)
  obtain ⟨rfl, h2, h3, h4⟩ := hq
  exact ⟨.inl ⟨.bool true, .bool true, [], rfl, fun _ => rfl, .bool true, Att.post_true l _, fun _ => ⟨List.Pairwise.nil, fun _ hm => (nomatch hm)⟩⟩, h2, h3, h4⟩
/-! ### the known objects with the script among them, without one code object's table -/
def Kx (K : Frag) (a : Addr) (o : Obj) (T : Addr) : Frag := (a, o) :: K.filter fun p => !(p.1 == T)
section
variable {K : Frag} {a T : Addr} {o : Obj} {h : Heap}
theorem look_filter {b T : Addr} (hb : b ≠ T) : ∀ K : Frag, (K.filter fun p => !(p.1 == T)).lookup b = K.lookup b
  | [] => rfl
  | (c, u) :: r => by
    have ih := look_filter hb r
    by_cases hc : c = T
    · subst hc
      rw [List.filter_cons_of_neg (by simp), ih, List.lookup_cons]
      have : (b == c) = false := by simpa using hb
      rw [this]
    · rw [List.filter_cons_of_pos (by simpa using hc), List.lookup_cons, List.lookup_cons, ih]
theorem look_gone (T : Addr) : ∀ K : Frag, (K.filter fun p => !(p.1 == T)).lookup T = none
  | [] => rfl
  | (c, u) :: r => by
    have ih := look_gone T r
    by_cases hc : c = T
    · subst hc
      rw [List.filter_cons_of_neg (by simp), ih]
    · rw [List.filter_cons_of_pos (by simpa using hc), List.lookup_cons, ih]
      have : (T == c) = false := by simpa using fun z => hc z.symm
      rw [this]
theorem kx_self : (Kx K a o T).lookup a = some o := by
  unfold Kx
  rw [List.lookup_cons, beq_self_eq_true]
theorem kx_ne {b : Addr} (h1 : b ≠ a) (h2 : b ≠ T) : (Kx K a o T).lookup b = K.lookup b := by
  unfold Kx
  have : (b == a) = false := by simpa using h1
  rw [List.lookup_cons, this]
  exact look_filter h2 K
theorem kx_tab (h1 : T ≠ a) : (Kx K a o T).lookup T = none := by
  unfold Kx
  have : (T == a) = false := by simpa using h1
  rw [List.lookup_cons, this]
  exact look_gone T K
theorem kx_in (X : K.In h) (ha : h.get? a = some o) : (Kx K a o T).In h := fun b u e => by
  by_cases hb : b = a
  · subst hb
    rw [kx_self] at e
    cases e
    exact ha
  · by_cases hT : b = T
    · subst hT
      rw [kx_tab hb] at e
      cases e
    · rw [kx_ne hb hT] at e
      exact X b u e
/-- where a def's record stands, and its code object -/
theorem fun_kx {x qual : Str} {st : Stmt} {f : Addr} {fd : FuncData} (F : Fun K x qual st f fd) (X : K.In h) (hT : h.get? T = some (tabObj #[])) (ha : K.lookup a = none) : Fun (Kx K a o T) x qual st f fd := by
  obtain ⟨oc, od, kV, doc, pm, an, cdv, ct, osl, rfl, lk, hcd⟩ := F.ex
  have na : ∀ {b : Addr} {u : Obj}, K.lookup b = some u → b ≠ a := fun e z => by
    rw [z, ha] at e
    cases e
  have fT : f ≠ T := fun z => by
    have h1 := X _ _ lk
    rw [z, hT] at h1
    have h2 := congrArg Obj.data (Option.some.inj h1)
    cases h2
  have lk' := (kx_ne (K := K) (o := o) (na lk) fT).trans lk
  refine ⟨⟨oc, od, kV, doc, pm, an, cdv, ct, osl, rfl, lk', ?_⟩, ?_⟩
  · unfold codeIn at hcd ⊢
    cases cdv with
    | ref c =>
      dsimp only at hcd ⊢
      cases e : K.lookup c with
      | none => rw [e] at hcd; cases hcd
      | some u =>
        have cT : c ≠ T := fun z => by
          have h1 := X _ _ e
          rw [z, hT] at h1
          have h2 : u = tabObj #[] := (Option.some.inj h1).symm
          rw [e, h2] at hcd
          cases hcd
        rw [kx_ne (na e) cT, e]
        rw [e] at hcd
        exact hcd
    | _ => cases hcd
  · unfold keepIn
    dsimp only
    rw [lk']
end
end RFI
end
-- part RSub
section
set_option Elab.async false
set_option linter.all false
set_option maxRecDepth 100000
set_option maxHeartbeats 2000000
/-! What is known of defs and classes is known of them too where more is known, and less of code objects' tables. -/
namespace RFI
open PySem PySem.Spec PySem.Calls PyProof.Rows L2 PySem.W
/-- all but tables is kept -/
def Sub (K K' : Frag) : Prop := ∀ b o, K.lookup b = some o → o ≠ tabObj #[] → K'.lookup b = some o
section
variable {K K' : Frag}
theorem Sub.ns (S : Sub K K') {N : Addr} {x : Str} {r : Option Value} (e : nsIn K N x = some r) : nsIn K' N x = some r := by
  unfold nsIn at e
  split at e
  · rename_i ho
    have h2 := S _ _ ho (fun z => by injection z with _ _ z; cases z)
    unfold nsIn
    rw [h2]
    exact e
  · cases e
theorem Sub.own (S : Sub K K') {x : Str} {c : Value} {r : Option Value} (e : ownIn K x c = some r) : ownIn K' x c = some r := by
  cases c with
  | ref a =>
    unfold ownIn at e
    dsimp only at e
    split at e
    · rename_i ho
      have h2 := S _ _ ho (fun z => by injection z with _ _ z; cases z)
      unfold ownIn
      dsimp only
      rw [h2]
      exact S.ns e
    · cases e
  | _ => exact e
theorem Sub.along (S : Sub K K') {x : Str} : ∀ {l : List Value} {r : Option Value}, alongIn K x l = some r → alongIn K' x l = some r
  | [], _, e => e
  | c :: l, r, e => by
    unfold alongIn at e ⊢
    cases h : ownIn K x c with
    | none => rw [h] at e; cases e
    | some v =>
      rw [h] at e
      rw [S.own h]
      cases v with
      | some w => exact e
      | none => exact S.along e
theorem Sub.find (S : Sub K K') {t : Value} {x : Str} {r : Option Value} (e : findIn K t x = some r) : findIn K' t x = some r := by
  cases t with
  | ref a =>
    unfold findIn at e
    dsimp only at e
    split at e
    · rename_i ho
      have h2 := S _ _ ho (fun z => by injection z with _ _ z; cases z)
      unfold findIn
      dsimp only
      rw [h2]
      exact S.along e
    · cases e
  | _ => exact e
theorem Sub.type (S : Sub K K') {v t : Value} (e : typeIn K v = some t) (n : t ≠ .none) : typeIn K' v = some t := by
  cases v with
  | ref a =>
    obtain ⟨o, ho, he⟩ := Option.map_eq_some_iff.mp (show (K.lookup a).map (·.cls) = some t from e)
    have h2 := S _ _ ho (fun z => n (by rw [← he, z]))
    show (K'.lookup a).map (·.cls) = some t
    rw [h2]
    exact congrArg some he
  | _ => exact e
theorem Sub.special (S : Sub K K') {v : Value} {x : Str} {r : Option Value} (e : specialIn K v x = some r) : specialIn K' v x = some r := by
  obtain ⟨t, a, b⟩ := Option.bind_eq_some_iff.mp e
  have nt : t ≠ .none := fun z => by rw [z] at b; cases b
  exact Option.bind_eq_some_iff.mpr ⟨t, S.type a nt, S.find b⟩
theorem Sub.takes (S : Sub K K') {a : Value} {r : Bool} (e : takesIn K a = some r) : takesIn K' a = some r := by
  unfold takesIn at e ⊢
  cases h : specialIn K a "__set__" with
  | none => rw [h] at e; cases e
  | some v =>
    rw [h] at e
    rw [S.special h]
    cases v with
    | some w => exact e
    | none =>
      obtain ⟨y, hy, q⟩ := Option.map_eq_some_iff.mp (show (specialIn K a "__delete__").map (·.isSome) = some r from e)
      exact Option.map_eq_some_iff.mpr ⟨y, S.special hy, q⟩
theorem Sub.cls (S : Sub K K') {C : Addr} {cd : ClassData} (e : clsIn K C = some cd) : clsIn K' C = some cd := by
  unfold clsIn at e
  split at e
  · rename_i ho
    have h2 := S _ _ ho (fun z => by injection z with _ _ z; cases z)
    unfold clsIn
    rw [h2]
    exact e
  · cases e
theorem Sub.clsAny (S : Sub K K') {C : Addr} {p : ClassData → Bool} (e : (clsIn K C).any p = true) : (clsIn K' C).any p = true := by
  cases h : clsIn K C with
  | none => rw [h] at e; cases e
  | some cd =>
    rw [h] at e
    rw [S.cls h]
    exact e
theorem Sub.mro (S : Sub K K') {C : Addr} {b : Value} {r : Bool} (e : mroIn K C b = some r) : mroIn K' C b = some r := by
  obtain ⟨cd, a, q⟩ := Option.bind_eq_some_iff.mp e
  exact Option.bind_eq_some_iff.mpr ⟨cd, S.cls a, q⟩
theorem Sub.sub (S : Sub K K') {t b : Value} {r : Bool} (e : subIn K t b = some r) : subIn K' t b = some r := by
  cases t with
  | ref C => exact S.mro e
  | _ => exact e
theorem Sub.inst (S : Sub K K') {v b : Value} {r : Bool} (e : instIn K v b = some r) : instIn K' v b = some r := by
  obtain ⟨t, a, q⟩ := Option.bind_eq_some_iff.mp e
  have nt : t ≠ .none := fun z => by rw [z] at q; cases q
  exact Option.bind_eq_some_iff.mpr ⟨t, S.type a nt, S.sub q⟩
theorem Sub.isFn (S : Sub K K') {v : Value} (e : isFn K v = true) : isFn K' v = true := by
  have h := beq_iff_eq.mp (show (typeIn K v == some (.type "function")) = true from e)
  show (typeIn K' v == some (.type "function")) = true
  rw [S.type h (fun z => by cases z)]
  exact beq_self_eq_true _
theorem Sub.keep (S : Sub K K') {v : Value} (e : keepIn K v = true) : keepIn K' v = true := by
  cases v with
  | ref a =>
    unfold keepIn at e
    dsimp only at e
    split at e
    · rename_i ho
      have h2 := S _ _ ho (fun z => by injection z with _ _ z; cases z)
      unfold keepIn
      dsimp only
      rw [h2]
    · rename_i ho
      have h2 := S _ _ ho (fun z => by injection z with _ _ z; cases z)
      unfold keepIn
      dsimp only
      rw [h2]
      dsimp only
      rw [S.special (beq_iff_eq.mp e)]
      exact beq_self_eq_true _
    · cases e
  | _ => exact e
theorem Sub.code (S : Sub K K') {cd : Value} {q : Str} (e : codeIn K cd q = true) : codeIn K' cd q = true := by
  cases cd with
  | ref c =>
    unfold codeIn at e
    dsimp only at e
    split at e
    · rename_i vs _ ho
      have h2 := S _ _ ho (fun z => by
        injection z with _ _ z
        injection z with z
        rw [z] at e
        cases e)
      unfold codeIn
      dsimp only
      rw [h2]
      exact e
    · cases e
  | _ => exact e
theorem Sub.fun_ (S : Sub K K') {x qual : Str} {st : Stmt} {f : Addr} {fd : FuncData} (F : Fun K x qual st f fd) : Fun K' x qual st f fd := by
  obtain ⟨oc, od, kV, doc, pm, an, cdv, ct, osl, e, lk, hcd⟩ := F.ex
  exact ⟨⟨oc, od, kV, doc, pm, an, cdv, ct, osl, e, S _ _ lk (fun z => by injection z with _ _ z; cases z), S.code hcd⟩, S.keep F.kp⟩
theorem Sub.plainGet (S : Sub K K') {C : Addr} {f : Str} (e : plainGet K C f = true) : plainGet K' C f = true := by
  unfold PySem.W.plainGet at e ⊢
  rw [Bool.and_eq_true] at e ⊢
  refine ⟨?_, ?_⟩
  · rw [S.find (beq_iff_eq.mp e.1)]; exact beq_self_eq_true _
  · rw [S.find (beq_iff_eq.mp e.2)]; exact beq_self_eq_true _
theorem Sub.clsOk (S : Sub K K') {C : Addr} (c : Cls K C) : Cls K' C := ⟨S.plainGet c.pg, S.clsAny c.hd, S.clsAny c.po, S.find c.sa⟩
theorem Sub.noAttr (S : Sub K K') {C : Addr} {f : Str} (n : NoAttr K C f) : NoAttr K' C f := S.find n
theorem Sub.meth (S : Sub K K') {C f : Addr} {m : Str} (h : Meth K C m f) : Meth K' C m f := ⟨S.find h.at_, S.isFn h.fn, S.keep h.kp⟩
theorem Sub.makes (S : Sub K K') {C : Addr} (e : makesIn K C = true) : makesIn K' C = true := by
  unfold makesIn at e
  split at e
  · rename_i ho
    have h2 := S _ _ ho (fun z => by injection z with _ _ z; cases z)
    unfold makesIn
    rw [h2]
    dsimp only
    simp only [Bool.and_eq_true] at e ⊢
    obtain ⟨⟨q, e1⟩, e2⟩ := e
    refine ⟨⟨q, ?_⟩, ?_⟩
    · rw [S.special (beq_iff_eq.mp e1)]; exact beq_self_eq_true _
    · rw [S.inst (beq_iff_eq.mp e2)]; exact beq_self_eq_true _
  · cases e
theorem Sub.mk (S : Sub K K') {C f : Addr} (h : Mk K C f) : Mk K' C f := ⟨S.makes h.makes, S.find h.init, S.isFn h.fn, S.keep h.kp⟩
theorem Sub.kit (S : Sub K K') {t c : Value} {r : Bool} (e : kitOne K t c = some r) : kitOne K' t c = some r := by
  unfold kitOne at e ⊢
  split at e
  · rename_i h
    rw [if_pos h]
    exact e
  · rename_i h
    rw [if_neg h]
    unfold kitCls at e ⊢
    split at e
    · split at e
      · rename_i C z
        rw [Bool.and_eq_true] at z
        have e1 : (clsIn K' C).isSome = true := by
          obtain ⟨cd, hcd⟩ := Option.isSome_iff_exists.mp z.1
          rw [S.cls hcd]
          rfl
        have e2 : (typeIn K' (.ref C) == some (.type "type")) = true := by
          rw [S.type (beq_iff_eq.mp z.2) (fun z => by cases z)]
          exact beq_self_eq_true _
        rw [e1, e2]
        exact S.sub e
      · cases e
    · split at e
      · rename_i T z
        rw [if_pos z]
        exact S.sub e
      · cases e
    · cases e
theorem Sub.insC (S : Sub K K') {C : Addr} (h : C8.InsC K C) : C8.InsC K' C := ⟨S.clsOk h.cl, S.find h.ha, S.special h.hn, S.takes h.htk, S.mro h.hm, S.kit h.me⟩
end
/-! ### the known part with the script in it, without tables -/
def KxT (K : Frag) (a : Addr) (o : Obj) (Ts : List Addr) : Frag := (a, o) :: K.filter fun p => !Ts.contains p.1
section
variable {K : Frag} {a : Addr} {o : Obj} {Ts : List Addr} {h : Heap}
theorem look_ts {b : Addr} (hb : b ∉ Ts) : ∀ K : Frag, (K.filter fun p => !Ts.contains p.1).lookup b = K.lookup b
  | [] => rfl
  | (c, u) :: r => by
    have ih := look_ts hb r
    by_cases hc : c ∈ Ts
    · have hbc : (b == c) = false := by simpa using fun z : b = c => hb (by rw [z]; exact hc)
      rw [List.filter_cons_of_neg (by simpa using hc), ih, List.lookup_cons, hbc]
    · rw [List.filter_cons_of_pos (by simpa using hc), List.lookup_cons, List.lookup_cons, ih]
theorem look_none {b : Addr} (hb : b ∈ Ts) : ∀ K : Frag, (K.filter fun p => !Ts.contains p.1).lookup b = none
  | [] => rfl
  | (c, u) :: r => by
    have ih := look_none hb r
    by_cases hc : c ∈ Ts
    · rw [List.filter_cons_of_neg (by simpa using hc), ih]
    · have hbc : (b == c) = false := by simpa using fun z : b = c => hc (by rw [← z]; exact hb)
      rw [List.filter_cons_of_pos (by simpa using hc), List.lookup_cons, hbc, ih]
theorem kxt_self : (KxT K a o Ts).lookup a = some o := by
  unfold KxT
  rw [List.lookup_cons, beq_self_eq_true]
theorem kxt_ne {b : Addr} (h1 : b ≠ a) (h2 : b ∉ Ts) : (KxT K a o Ts).lookup b = K.lookup b := by
  unfold KxT
  have : (b == a) = false := by simpa using h1
  rw [List.lookup_cons, this]
  exact look_ts h2 K
theorem kxt_tab {b : Addr} (h1 : b ≠ a) (h2 : b ∈ Ts) : (KxT K a o Ts).lookup b = none := by
  unfold KxT
  have : (b == a) = false := by simpa using h1
  rw [List.lookup_cons, this]
  exact look_none h2 K
theorem kxt_in (X : K.In h) (ha : h.get? a = some o) : (KxT K a o Ts).In h := fun b u e => by
  by_cases hb : b = a
  · subst hb
    rw [kxt_self] at e
    cases e
    exact ha
  · by_cases hT : b ∈ Ts
    · rw [kxt_tab hb hT] at e
      cases e
    · rw [kxt_ne hb hT] at e
      exact X b u e
theorem kxt_sub (X : K.In h) (hT : ∀ T ∈ Ts, h.get? T = some (tabObj #[])) (ha : K.lookup a = none) : Sub K (KxT K a o Ts) := fun b u e n => by
  have hb : b ≠ a := fun z => by rw [z, ha] at e; cases e
  have hbT : b ∉ Ts := fun z => by
    have h1 := X _ _ e
    rw [hT b z] at h1
    exact n (Option.some.inj h1).symm
  rw [kxt_ne hb hbT]
  exact e
end
/-- the law's end, over all that the head knows: cts, the code objects with tables of the defs so called -/
def LawFor (l : OpenLaw) (w : World) (K : Frag) (mg : Str → Option Value) (fa : Addr) (names : List Str) (x : Str) (k : Nat) (sp : Frag → List Addr → Sp) : Prop :=
  ∃ (fd : FuncData) (cts : List (Addr × Addr)), (∀ p ∈ cts, ∃ y ∈ names, tabIn K y = some p) ∧ (∀ (s : Shared) (u : Value), BindsTo s fd ⟨[u], []⟩ [(x, u)]) ∧
    ∀ (K' : Frag), Sub K K' → ∀ (base : Heap), K'.In base → (∀ p ∈ cts, GxR.TabB base mg p.1 p.2) → FnOk l.prog w K' mg base CX0 k fa fd [x] (sp K' (cts.map (·.2)))
theorem attachT {l : OpenLaw} {n N t k : Nat} {q : Program} {loose : List Str} {XP : (Str → Option Value) → Heap → Prop} {K : Params → Frag} {as : List Addr} {d : DefRec} {names : List Str} {x : Str} {sp : Frag → List Addr → Sp}
    (hn : l.most = some n) (hsz : n ≤ sizeLine) (hdf : d.params.defaults = []) (ek : ∀ P, as = (K P).map (·.1)) (ht : 0 < t) (hrm : Room k callerA) (hrec : ∀ y ∈ names, ((recsOf q).find? (fun e => e.name == y)).isSome = true)
    (F : ∀ (w : World) (h : Heap) (mg : Str → Option Value) (fa : Addr), (K w.params).In h → h.Ns mainGlobals mg → mg d.name = some (.ref fa) → LawFor l w (K w.params) mg fa names x k sp)
    (hsp : ∀ (K' : Frag) (H : Hp) (a : Addr) (ns : List Int) (Ts : List Addr), (∀ T ∈ Ts, GxR.TabG H T) → SqL K' H a (ns.map V.int) → ClAt K' H a (ns.map V.int) → ns.length ≤ n → (∀ z ∈ ns, Builtin.Int.intBits z ≤ 1048576) → sp K' Ts [.ref a] H (fun v _ => v = .bl true) fun _ _ _ => False) :
    WalkX q loose XP (X.obsZ as) (X.valZ K N t) l.row.toRowW d [] (fun f vs => PySem.call f vs) := by
  refine attachX hn hdf ek ht fun w s₁ mg mb fa o pm cd doc a vs ns s₀ G KX hlk hcl ho hd hcd hmg hobj hints hlen hbits hg => ?_
  obtain ⟨fd, cts, hct, hbind, hF⟩ := F w s₁.heap mg fa KX G.T.g hmg
  have hT : ∀ p ∈ cts, PySem.W.CodeHd s₁.heap p.1 p.2 ∧ s₁.heap.get? p.2 = some (tabObj #[]) := fun p hp => by
    obtain ⟨y, hy, ht'⟩ := hct p hp
    obtain ⟨dR, hR⟩ := Option.isSome_iff_exists.mp (hrec y hy)
    exact tab_of G.T KX hR ht'
  have hTs : ∀ T ∈ cts.map (·.2), s₁.heap.get? T = some (tabObj #[]) := fun T hT' => by
    obtain ⟨p, hp, e⟩ := List.mem_map.mp hT'
    rw [← e]
    exact (hT p hp).2
  have aT : ∀ T ∈ cts.map (·.2), T ≠ a := fun T hT' z => by
    have h1 := hTs T hT'
    rw [z, hobj] at h1
    have z' := congrArg Obj.data (Option.some.inj h1)
    cases z'
  have clo : ClO { cls := .type "list", data := .seq vs.toArray } := ⟨vs.toArray, _, rfl, fun v hv => hcl v (by simpa using hv)⟩
  have S : Sub (K w.params) (KxT (K w.params) a { cls := .type "list", data := .seq vs.toArray } (cts.map (·.2))) := kxt_sub KX hTs hlk
  refine LamX.law_callTs (K := KxT (K w.params) a { cls := .type "list", data := .seq vs.toArray } (cts.map (·.2))) (CX := CX0) (k := k) (x := x) (cs := cts) (sp := sp (KxT (K w.params) a { cls := .type "list", data := .seq vs.toArray } (cts.map (·.2))) (cts.map (·.2)))
    (kxt_in KX hobj) G.T.g G.T.b G.T.builtins G.T.nolimit hg (fun p hp => (hT p hp).2) (fun p hp => kxt_tab (aT _ (List.mem_map.mpr ⟨p, hp, rfl⟩)) (List.mem_map.mpr ⟨p, hp, rfl⟩)) (fun p hp => (hT p hp).1) G.T.bmain hobj hints (Nat.le_trans hlen hsz) hrm
    (fun base hb _ TB => hF _ S base hb fun p hp => ⟨(TB p hp).code, (TB p hp).bm, (TB p hp).gP⟩) hbind (fun H hH hS => ?_) fun H e s' hh => hh
  refine hsp _ H a ns _ (fun T hT' => ?_) hS (.inl ⟨_, .inr kxt_self, clo⟩) hlen hbits
  obtain ⟨p, hp, e⟩ := List.mem_map.mp hT'
  rw [← e]
  exact ⟨#[], hH p hp, trivial⟩
end RFI
end
-- part RExc
section
set_option Elab.async false
set_option linter.all false
set_option maxRecDepth 100000
set_option maxHeartbeats 2000000
/-! Errors that leave defs, are caught and told apart by a def of the law's own. -/
namespace RFX
open PySem PySem.Spec PyProof.Rows L2 RFI K1
/-- what stands behind a statement that never ends well -/
theorem pss_nev {X : Cx} {st : List Stmt} : PSs X st (fun _ _ _ => False) := ⟨fun _ _ _ _ _ _ z => z.elim⟩
theorem takesN {X : Cx} : L2N.Takes X (fun _ _ _ _ => False) := fun u s' x => by
  obtain ⟨a, B, sI, ps, σ, H, c, d, x1, x2, x3, x4, x5, x6, x7, x8, z⟩ := x
  exact z.elim
/-- what is refused: an error of the class at C; all stands but for tables -/
def spBad (Ts : List Addr) (c : List V → Hp → Addr → Prop) : Sp := fun vs H _ E => ∃ C, c vs H C ∧ TabsG H Ts ∧ ∀ H', SameT Ts H H' → TabsG H' Ts → E (.ref C) none H'
section
variable {P : Program} {w : World} {K : PySem.W.Frag} {mg : Str → Option Value} {base : Heap}
/-- a def that may raise -/
theorem okN {x qual : Str} {st : Stmt} {f : Addr} {fd : FuncData} {N ps : List Str} {k : Nat} {sp : Sp} (F : Fun K x qual st f fd) (S : FnScope N ps (defScope st))
    (len : ∀ vs H Q E, sp vs H Q E → vs.length = ps.length)
    (body : ∀ (cdv : Value) (A : Around) (outer : List Env) (s : Shared) (H : Hp) (vs : List V) (Q : VK) (E : XK), Room k (A.deeper (envOfC qual (defScope st) s.heap.objs.size f cdv)) → sp vs H Q E →
      ∃ t, PSs (cxOf (L2N.CX P w) P w K mg base N qual (defScope st) f cdv A outer s H E) (defBody st) t ∧ t { nx := fun _ H' => Q .non H', rt := Q } (start N vs) H) :
    FnOk P w K mg base (L2N.CX P w) (k + 1) f fd ps sp := by
  obtain ⟨oc, od, kV, doc, pm, an, cdv, ct, osl, e, lk, hcd⟩ := F.ex
  rw [e] at lk ⊢
  exact fn_of lk hcd S len (body cdv)
/-- .., its code object known -/
theorem okNT {x qual : Str} {st : Stmt} {f c : Addr} {fd : FuncData} {N ps : List Str} {k : Nat} {sp : Sp} (F : Fun K x qual st f fd) (hc : fd.code = .ref c) (S : FnScope N ps (defScope st))
    (len : ∀ vs H Q E, sp vs H Q E → vs.length = ps.length)
    (body : ∀ (A : Around) (outer : List Env) (s : Shared) (H : Hp) (vs : List V) (Q : VK) (E : XK), Room k (A.deeper (envOfC qual (defScope st) s.heap.objs.size f (.ref c))) → sp vs H Q E →
      ∃ t, PSs (cxOf (L2N.CX P w) P w K mg base N qual (defScope st) f (.ref c) A outer s H E) (defBody st) t ∧ t { nx := fun _ H' => Q .non H', rt := Q } (start N vs) H) :
    FnOk P w K mg base (L2N.CX P w) (k + 1) f fd ps sp := by
  obtain ⟨oc, od, kV, doc, pm, an, cdv, ct, osl, e, lk, hcd⟩ := F.ex
  have ec : cdv = .ref c := by rw [e] at hc; exact hc
  rw [ec] at e hcd
  rw [e] at lk ⊢
  exact fn_of lk hcd S len body
/-- a def that runs while an error is handled -/
theorem okH {CX : CXT} {x qual : Str} {st : Stmt} {f : Addr} {fd : FuncData} {N ps : List Str} {k : Nat} {sp : Sp} (F : Fun K x qual st f fd) (S : FnScope N ps (defScope st))
    (len : ∀ vs H Q E, sp vs H Q E → vs.length = ps.length)
    (body : ∀ (cdv : Value) (A : Around) (outer : List Env) (s : Shared) (H : Hp) (vs : List V) (Q : VK) (E : XK) (p : Addr × Obj), L2H.RoomH k (A.deeper (envOfC qual (defScope st) s.heap.objs.size f cdv)) → sp vs H Q E →
      ∃ t, PSs (L2H.cxH CX P w K mg base N qual (defScope st) f cdv A outer s H E p) (defBody st) t ∧ t { nx := fun _ H' => Q .non H', rt := Q } (start N vs) H) :
    L2H.FnH P w K mg base CX (k + 1) f fd ps sp := by
  obtain ⟨oc, od, kV, doc, pm, an, cdv, ct, osl, e, lk, hcd⟩ := F.ex
  rw [e] at lk ⊢
  exact L2H.fn_ofH lk hcd S len fun A outer s H vs Q E p _ => body cdv A outer s H vs Q E p
end
/-! ### an error's class -/
/-- a class of errors of the program's own, without an __init__ -/
structure XCls (K : PySem.W.Frag) (mg : Str → Option Value) (x : Str) (C : Addr) : Prop where
  g : mg x = some (.ref C)
  ex : PySem.W.excIn K C [.type "ValueError", .type "Exception", .type "BaseException", .type "object"] "ValueError.__new__" = true
  kp : PySem.W.keepIn K (.ref C) = true
  ty : PySem.W.typeIn K (.ref C) = some (.type "type")
  is : ExcC K C
theorem XCls.raises {X : Cx} {x : Str} {C : Addr} (c : XCls X.K X.mg x C) : Raises X (.ref C) := raises_own c.is.hs c.ty
/-- raise C('..') -/
theorem ps_bad {X : Cx} {W : WX} {x m : Str} {C : Addr} {j : Nat} {p p2 p3 p4 : Pos} (c : XCls X.K X.mg x C) (hc : X.calm = true) (tk : L2N.Takes X W) (hg : Gl X x) (hd : (x == ("__debug__" : Str)) = false := by decide) :
    PS X (.Raise (some (.Call (.Name x p) [.Constant (.str m) j p2] [] p3)) none p4) (fun _ σ H => W (.ref C) none σ H) :=
  L2N.ps_raise hc tk (L2N.pmk_own PySem.F.excBase_ValueError c.ex c.g c.kp c.raises hg hd)
/-- isinstance(e, c), e an error that the known part knows -/
def rIsK (K : PySem.W.Frag) : List V → Hp → VK → Prop := fun xs H Q => ∃ (a D : Addr) (oe : Obj) (c : V) (cv : Value) (b : Bool), xs = [.ref a, c] ∧ K.lookup a = some oe ∧ Zc (.ref D) none oe ∧ (∃ vs, oe.data = .fields vs) ∧ ExcC K D ∧
  (∀ u, RelV c u → u = cv) ∧ PySem.W.kitOne K (.ref D) cv = some b ∧ Q (.bl b) H
theorem call_isK {X : Cx} : CallR X (.builtin "isinstance") (rIsK X.K) := fun pins s σ H xs us Q I r h => by
  obtain ⟨a, D, oe, c, cv, b, ex, lk, hz, ⟨fv, hf⟩, C, hcv, e, q⟩ := h
  rw [ex] at r
  obtain ⟨u1, u2, eu, r1, r2⟩ := vals2 r
  rw [eu, show u1 = Value.ref a from r1, hcv u2 r2]
  have J : PySem.W.InstAt s.heap a oe D none := by
    have hget := I.kIn a oe lk
    cases oe
    cases hz.1
    cases hz.2
    cases hf
    exact ⟨hget, rfl, rfl, trivial⟩
  exact PySem.W.kia_one (PySem.W.handS_kitx_exc C.hg C.hk C.hs C.hd C.ha C.hn C.ht C.hm) I.kIn J e (fun z => nomatch z) fun tk => ⟨.bl b, H, I.tok tk, rfl, q⟩
end RFX
end
-- part RExcK
section
set_option Elab.async false
set_option linter.all false
set_option maxRecDepth 100000
set_option maxHeartbeats 2000000
/-! A held error handed to a def; a call of a local name that holds one of several defs, each of which may raise. -/
namespace RFX
open PySem PySem.Spec PyProof.Rows L2 RFI K1
/-! ### the known part and the ground, with an error in them -/
def kE (K : PySem.W.Frag) (a : Addr) (oe : Obj) : PySem.W.Frag := (a, oe) :: K
theorem kE_at {K : PySem.W.Frag} {a : Addr} {oe : Obj} : (kE K a oe).lookup a = some oe := by
  unfold kE
  rw [List.lookup_cons, beq_self_eq_true]
theorem kE_ne {K : PySem.W.Frag} {a b : Addr} {oe : Obj} (n : b ≠ a) : (kE K a oe).lookup b = K.lookup b := by
  unfold kE
  have z : (b == a) = false := by simpa using n
  rw [List.lookup_cons, z]
theorem kE_sub {K : PySem.W.Frag} {h : Heap} {a : Addr} {oe : Obj} (X : K.In h) (e : h.get? a = some oe) : Sub K (kE K a oe) := fun b o l n => by
  by_cases z : b = a
  · rw [z] at l ⊢
    rw [kE_at, ← (X _ _ l), e]
  · rw [kE_ne z]
    exact l
/-- the ground, and one object more -/
theorem ground {base h : Heap} (st : ∀ b o, base.get? b = some o → h.get? b = some o) {a : Addr} {oe : Obj} (e : h.get? a = some oe) :
    ∃ G : Heap, (∀ b o, base.get? b = some o → G.get? b = some o) ∧ G.get? a = some oe ∧ (∀ b o, G.get? b = some o → h.get? b = some o ∧ (b = a ∨ ∃ u, base.get? b = some u)) ∧ G.objs.size = h.objs.size := by
  obtain ⟨l, hl⟩ : ∃ l : List Addr, l = (List.range h.objs.size).filter fun b => !((base.get? b).isSome || b == a) := ⟨_, rfl⟩
  have inl : ∀ b, b ∈ l ↔ b < h.objs.size ∧ base.get? b = none ∧ b ≠ a := fun b => by
    rw [hl, List.mem_filter, List.mem_range]
    cases base.get? b <;> simp
  refine ⟨PySem.W.hideAll h l, fun b o q => PySem.W.hideAll_get l (st b o q) fun m => ?_, PySem.W.hideAll_get l e fun m => ((inl a).mp m).2.2 rfl, fun b o q => ?_, PySem.W.hideAll_size l h⟩
  · rw [((inl b).mp m).2.1] at q
    cases q
  · have q2 := PySem.W.of_hideAll l q
    refine ⟨q2, ?_⟩
    by_cases z : b = a
    · exact .inl z
    · cases q3 : base.get? b with
      | some u => exact .inr ⟨u, rfl⟩
      | none =>
        rw [PySem.W.hideAll_none l ((inl b).mpr ⟨Heap.lt_size q2, q3, z⟩)] at q
        cases q
/-- a state's ground, an error that a suite holds in it -/
theorem env0_with {P : Program} {w : World} {K : PySem.W.Frag} {mg : Str → Option Value} {base : Heap} {A : Around} {outer : List Env} {s : Shared} {H : Hp} {a : Addr} {oe : Obj} (E : Env0 P w K mg base A outer s H)
    (e : s.heap.get? a = some oe) (na : H a = none) (nf : a ∉ frs outer) : ∃ G : Heap, Env0 P w (kE K a oe) mg G A outer s H := by
  obtain ⟨G, g1, g2, g3, g4⟩ := ground (fun b o q => (E.bs b o q).1) e
  have kin : (kE K a oe).In G := fun b o l => by
    by_cases z : b = a
    · rw [z] at l ⊢
      rw [kE_at] at l
      rw [← l]
      exact g2
    · rw [kE_ne z] at l
      exact g1 b o (E.mod.kin b o l)
  have lim : G.NoLimit := E.mod.nolimit.keeps g1
  obtain ⟨mb, h1, h2⟩ := E.mod.blt
  refine ⟨G, E.frames, ⟨kin, E.mod.glob.keeps g1, ⟨mb, h1.keeps g1, h2⟩, lim⟩, fun b o q => ?_, Nat.le_of_eq g4, funFrames_none E.funs fun L hL => ?_, E.frf, E.hok, E.bare⟩
  · obtain ⟨q1, q2⟩ := g3 b o q
    refine ⟨q1, ?_⟩
    rcases q2 with z | ⟨u, q2⟩
    · rw [z]; exact na
    · exact (E.bs b u q2).2
  · cases q : G.get? L with
    | none => rfl
    | some o =>
      rcases (g3 L o q).2 with z | ⟨u, q2⟩
      · rw [z] at hL
        exact absurd hL nf
      · have q3 := (E.funs.mem hL).1
        rw [q2] at q3
        cases q3
/-! ### f(e), e the error that the suite holds, in slot i -/
def tKeep (K : PySem.W.Frag) (i : Nat) (sp : PySem.W.Frag → Sp) (a : Addr) (cls : Value) (d : Option Addr) : TE := fun σ H Q => σ[i]? = some (some (.ref a)) ∧ ∀ (oe : Obj) (K' : PySem.W.Frag), Zc cls d oe → (∃ vs, oe.data = .fields vs) → Sub K K' → K'.lookup a = some oe → sp K' [.ref a] H Q E0
theorem pe_keep {X : Cx} {a : Addr} {oe : Obj} {pn : List (Addr × Obj)} {cls : Value} {d : Option Addr} {x n : Str} {i k : Nat} {f : Addr} {fd : FuncData} {ps : List Str} {sp : PySem.W.Frag → Sp} {p p2 pos : Pos} (hz : L2N.Zn cls d oe) (hf : ∃ vs, oe.data = .fields vs)
    (F : ∀ (K' : PySem.W.Frag) (G : Heap), Sub X.K K' → L2H.FnH X.prog X.w K' X.mg G CX0 k f fd ps (sp K')) (hr : Room k X.A) (hg : Gl X x) (hm : X.mg x = some (.ref f)) (hk : PySem.W.keepIn X.K (.ref f) = true) (hb : ∀ K' : PySem.W.Frag, Sub X.K K' → Binds K' fd ps [])
    (hN : X.N[i]? = some n) (hv : Vis X.env.scope n) (hdb : (x == ("__debug__" : Str)) = false := by decide) (hd1 : (n == ("__debug__" : Str)) = false := by decide) (hd2 : (n == ("__classdict__" : Str)) = false := by decide) :
    PE (X.suite a ((a, oe) :: pn)) (.Call (.Name x p) [.Name n p2] [] pos) (tKeep X.K i sp a cls d) := by
  refine ⟨fun pins s σ H Q I ⟨hs, h⟩ => ?_⟩
  have arg : PA (X.suite a ((a, oe) :: pn)) [.Name n p2] (tCons (tVar i) tNil) := pa_cons (pe_var hN hv hd1 hd2) pa_nil
  refine wpAny_Call_Name_kw (ld_glob (X := X.suite a ((a, oe) :: pn)) I hg hm ?_ hdb)
  have go := arg.run pos pins s σ H (fun vs H1 => vs = [.ref a] ∧ H1 = H) I ⟨.ref a, hs, rfl, rfl⟩
  refine PySem.W.callWith_K (h₀ := X.base) I.ok.mod.kin hk (thn go fun us s1 hh => ?_)
  obtain ⟨vs, H1, I1, rv, ev, eH⟩ := hh
  rw [ev] at rv
  rw [eH] at I1
  refine ⟨I1.kIn, ?_⟩
  obtain ⟨hget, na, nL, nF, ncell⟩ := I1.pin (a, oe) (List.mem_append_left _ List.mem_cons_self)
  have nst : a ∉ frs X.stack := fun m => (List.mem_cons.mp (I1.stkSub a m)).elim nL nF
  obtain ⟨G, E'⟩ := env0_with I1.env0 hget na nst
  have S : Sub X.K (kE X.K a oe) := kE_sub I1.kIn hget
  have q := h oe _ hz.zc hf S kE_at
  have FG := F _ G S
  have hlen : us.length = ps.length := rv.length.symm.trans (FG.len _ _ _ _ q)
  have kin : (kE X.K a oe).In s1.heap := E'.mod.kin.keeps fun b o z => (E'.bs b o z).1
  have bd := hb _ S s1 us kin (by rw [List.append_nil]; exact hlen)
  rw [List.append_nil] at bd
  obtain ⟨fv, hfv⟩ := hf
  have hot : L2H.Hot1 (X.A.mark (some (.ref a))) (a, oe) := ⟨rfl, fv, hfv, hz.2.2 fv hfv⟩
  have room : L2H.RoomH k (X.A.mark (some (.ref a))) := ⟨hr.dp, hr.un⟩
  have run := FG.run (X.A.mark (some (.ref a))) X.stack s1 H ⟨us, []⟩ us [.ref a] Q E0 (a, oe) room hot ⟨hget, na, nst, ncell⟩ E' bd rv q
  refine wpAny_call (codeAny_mono run fun r s' hr' => ?_)
  match r, hr' with
  | .ok (.ret u), z => exact I1.after z
/-! ### g(x, y), g a local name -/
/-- of several defs that the slot may hold -/
structure HeldX (P : Program) (w : World) (K : PySem.W.Frag) (mg : Str → Option Value) (base : Heap) (k : Nat) (f : Addr) (sp : Sp) : Prop where
  ex : ∃ (fd : FuncData) (ps : List Str), FnOk P w K mg base (L2N.CX P w) k f fd ps sp ∧ PySem.W.keepIn K (.ref f) = true ∧ Binds K fd ps []
def tCallX (i : Nat) (S : Addr → Sp → Prop) (E : L2.St → XK) (t : TA) : TE := fun σ H Q => ∃ f sp, σ[i]? = some (some (.ref f)) ∧ S f sp ∧ t σ H fun vs H1 => sp vs H1 Q (E σ)
theorem pe_callX {X : Cx} {k i : Nat} {S : Addr → Sp → Prop} {E : L2.St → XK} {x : Str} {e : Expr} {es : List Expr} {t : TA} {p pos : Pos} (A : ∀ f sp, S f sp → HeldX X.prog X.w X.K X.mg X.base k f sp) (hr : Room k X.A) (hN : X.N[i]? = some x) (hv : Vis X.env.scope x)
    (hx : ∀ σ, PassesAt (L2N.CX X.prog X.w) X σ (E σ)) (ha : PA X (e :: es) t) (hdb : (x == ("__debug__" : Str)) = false := by decide) (hcd : (x == ("__classdict__" : Str)) = false := by decide)
    (he : starEach (e :: es) X.env = (false, eval e X.env) :: starEach es X.env := by rfl) (hpl : (backTo pos (starEach es X.env)).any (·.1) = false := by rfl) : PE X (.Call (.Name x p) (e :: es) [] pos) (tCallX i S E t) := by
  refine ⟨fun pins s σ H Q I ⟨f, sp, hs, hS, ht⟩ => ?_⟩
  obtain ⟨fd, ps, F, hk, hb⟩ := (A f sp hS).ex
  have ld := (pe_var (pos := p) hN hv hdb hcd).run pins s σ H (fun v H1 => v = .ref f ∧ H1 = H) I ⟨.ref f, hs, rfl, rfl⟩
  refine wpAny_Call_Name_kw (thn ld fun u s1 hh => ?_)
  obtain ⟨v, H1, I1, r1, ev, eH⟩ := hh
  rw [ev] at r1
  rw [eH] at I1
  rw [show u = Value.ref f from r1]
  refine PySem.W.callWith_K (h₀ := X.base) I.ok.mod.kin hk (thn (ha.run pos pins s1 σ H _ I1 ht) fun us s2 h2 => ?_) he hpl
  obtain ⟨vs, H2, I2, r, q⟩ := h2
  exact ⟨I2.kIn, run_fnS F hr hb (hx σ) I2 r q⟩
end RFX
end
-- part RBad
section
set_option Elab.async false
set_option linter.all false
set_option maxRecDepth 100000
set_option maxHeartbeats 2000000
/-! Values that are no words, no numbers, no rows. -/
namespace RFX
open PySem PySem.Spec PyProof.Rows L2 RFI K1
/-- of one of these types -/
def TyIn (H : Hp) (x : V) (l : List String) : Prop := ∃ n, n ∈ l ∧ TyS H x (.type n)
theorem tyS_X {K : PySem.W.Frag} {H : Hp} {x : V} {t : Value} (h : TyS H x t) : TyX K H x t := by
  cases h with
  | non => exact .base .non
  | bl b => exact .base (.bl b)
  | int i => exact .base (.int i)
  | str z => exact .base (.str z)
  | flt z => exact .base (.flt z)
  | byt b => exact .byt b
  | lst e => exact .base (.lst e)
  | tup e => exact .base (.tup e)
  | dK e => exact .base (.dK e)
theorem tyS_tabs {H H' : Hp} {Ts : List Addr} {x : V} {u : Value} (t : TabsG H Ts) (s : SameT Ts H H') (h : TyS H x u) : TyS H' x u := by
  cases h with
  | non => exact .non
  | bl b => exact .bl b
  | int i => exact .int i
  | str z => exact .str z
  | flt z => exact .flt z
  | byt b => exact .byt b
  | lst e => exact .lst (t.keep s e fun _ z => by cases z)
  | tup e => exact .tup (t.keep s e fun _ z => by cases z)
  | dK e => exact .dK (t.keep s e fun _ z => by cases z)
theorem TyIn.tabs {H H' : Hp} {Ts : List Addr} {x : V} {l : List String} (h : TyIn H x l) (t : TabsG H Ts) (s : SameT Ts H H') : TyIn H' x l := let ⟨n, a, b⟩ := h; ⟨n, a, tyS_tabs t s b⟩
theorem tyS_same {H H' : Hp} {x : V} {u : Value} (s : Same H H') (h : TyS H x u) : TyS H' x u := tyS_tabs (Ts := []) (fun _ z => nomatch z) (fun b o _ e => s b o e) h
theorem TyIn.same {H H' : Hp} {x : V} {l : List String} (h : TyIn H x l) (s : Same H H') : TyIn H' x l := let ⟨n, a, b⟩ := h; ⟨n, a, tyS_same s b⟩
abbrev notStr : List String := ["NoneType", "int", "list", "tuple", "bool", "dict"]
abbrev notList : List String := ["NoneType", "int", "str", "tuple", "bool", "dict"]
abbrev notInt : List String := ["NoneType", "str", "list", "tuple", "bool", "dict"]
abbrev anyTy : List String := ["NoneType", "int", "str", "list", "tuple", "bool", "dict"]
theorem kit_notStr {K : PySem.W.Frag} {n : String} (h : n ∈ notStr) : PySem.W.kitOne K (.type n) (.type "str") = some false := by
  simp only [List.mem_cons, List.not_mem_nil, or_false] at h
  rcases h with rfl | rfl | rfl | rfl | rfl | rfl <;> exact kit_ty (by decide +kernel)
theorem kit_notList {K : PySem.W.Frag} {n : String} (h : n ∈ notList) : PySem.W.kitOne K (.type n) (.type "list") = some false := by
  simp only [List.mem_cons, List.not_mem_nil, or_false] at h
  rcases h with rfl | rfl | rfl | rfl | rfl | rfl <;> exact kit_ty (by decide +kernel)
theorem isw_not {K : PySem.W.Frag} {H : Hp} {x : V} (h : TyIn H x notInt) : IswIs K H x false := by
  obtain ⟨n, hn, t⟩ := h
  simp only [List.mem_cons, List.not_mem_nil, or_false] at hn
  rcases hn with rfl | rfl | rfl | rfl | rfl | rfl
  · exact ⟨_, false, false, t, kit_ty (by decide +kernel), kit_ty (by decide +kernel), rfl⟩
  · exact ⟨_, false, false, t, kit_ty (by decide +kernel), kit_ty (by decide +kernel), rfl⟩
  · exact ⟨_, false, false, t, kit_ty (by decide +kernel), kit_ty (by decide +kernel), rfl⟩
  · exact ⟨_, false, false, t, kit_ty (by decide +kernel), kit_ty (by decide +kernel), rfl⟩
  · exact ⟨_, true, true, t, kit_ty (by decide +kernel), kit_ty (by decide +kernel), rfl⟩
  · exact ⟨_, false, false, t, kit_ty (by decide +kernel), kit_ty (by decide +kernel), rfl⟩
theorem isw_int {K : PySem.W.Frag} {H : Hp} {i : Int} : IswIs K H (.int i) true := ⟨_, true, false, .int i, kit_ty (by decide +kernel), kit_ty (by decide +kernel), rfl⟩
theorem isw_any {K : PySem.W.Frag} {H : Hp} {x : V} (h : TyIn H x anyTy) : ∃ b, IswIs K H x b := by
  obtain ⟨n, hn, t⟩ := h
  by_cases e : n = "int"
  · subst e
    exact ⟨true, _, true, false, t, kit_ty (by decide +kernel), kit_ty (by decide +kernel), rfl⟩
  · refine ⟨false, isw_not ⟨n, ?_, t⟩⟩
    simp only [List.mem_cons, List.not_mem_nil, or_false] at hn ⊢
    rcases hn with rfl | rfl | rfl | rfl | rfl | rfl | rfl
    · exact .inl rfl
    · exact absurd rfl e
    · exact .inr (.inl rfl)
    · exact .inr (.inr (.inl rfl))
    · exact .inr (.inr (.inr (.inl rfl)))
    · exact .inr (.inr (.inr (.inr (.inl rfl))))
    · exact .inr (.inr (.inr (.inr (.inr rfl))))
/-! ### texts of other signs -/
def OddS (z : Str) : Prop := z.length ≤ 1000 ∧ ∃ c, c ∈ z.cps.toList ∧ c ≠ 117 ∧ c ≠ 100
theorem two_cnt : ∀ l : List Nat, cnt 117 l + cnt 100 l ≤ (l.length : Int)
  | [] => by decide
  | c :: r => by
    have ih := two_cnt r
    rw [cnt_cons, cnt_cons, List.length_cons]
    by_cases h1 : c = 117
    · rw [if_pos h1, if_neg (by omega)]; omega
    · rw [if_neg h1]
      by_cases h2 : c = 100
      · rw [if_pos h2]; omega
      · rw [if_neg h2]; omega
theorem two_less : ∀ l : List Nat, (∃ c, c ∈ l ∧ c ≠ 117 ∧ c ≠ 100) → cnt 117 l + cnt 100 l < (l.length : Int)
  | [], ⟨c, h, _⟩ => by cases h
  | a :: r, ⟨c, h, n1, n2⟩ => by
    rw [cnt_cons, cnt_cons, List.length_cons]
    rcases List.mem_cons.mp h with e | h
    · have ih := two_cnt r
      rw [if_neg (by omega), if_neg (by omega)]; omega
    · have ih := two_less r ⟨c, h, n1, n2⟩
      by_cases h1 : a = 117
      · rw [if_pos h1, if_neg (by omega)]; omega
      · rw [if_neg h1]
        by_cases h2 : a = 100
        · rw [if_pos h2]; omega
        · rw [if_neg h2]; omega
theorem odd_count {z : Str} (h : OddS z) : Txt.count z (Str.ofString "u") + Txt.count z (Str.ofString "d") ≠ (z.length : Int) := by
  rw [show (Str.ofString "u") = (⟨#[117]⟩ : Str) by decide +kernel, show (Str.ofString "d") = (⟨#[100]⟩ : Str) by decide +kernel, count_cnt, count_cnt]
  have q := two_less z.cps.toList h.2
  have e : z.length = z.cps.toList.length := by rw [Array.length_toList]; rfl
  rw [e]
  omega
/-! ### what is refused -/
def BadW (H : Hp) (x : V) : Prop := TyIn H x notStr ∨ ∃ z, x = .str z ∧ OddS z
def BadN (H : Hp) (x : V) (m : Int) : Prop := TyIn H x notInt ∨ ∃ i, x = .int i ∧ (i < 0 ∨ m ≤ i)
/-- no list of whole numbers -/
def BadL (K : PySem.W.Frag) (H : Hp) (x : V) : Prop := TyIn H x notList ∨ ∃ a xs, x = .ref a ∧ SqL K H a xs ∧ (∀ y ∈ xs, TyIn H y anyTy) ∧ ∃ y, y ∈ xs ∧ TyIn H y notInt
section
variable {K : PySem.W.Frag} {H H' : Hp} {Ts : List Addr} {x : V}
theorem BadW.tabs (h : BadW H x) (t : TabsG H Ts) (s : SameT Ts H H') : BadW H' x := h.imp (fun h => h.tabs t s) id
theorem BadN.tabs {m : Int} (h : BadN H x m) (t : TabsG H Ts) (s : SameT Ts H H') : BadN H' x m := h.imp (fun h => h.tabs t s) id
theorem BadL.tabs (h : BadL K H x) (t : TabsG H Ts) (s : SameT Ts H H') : BadL K H' x :=
  h.imp (fun h => h.tabs t s) fun ⟨a, xs, e, q, r, y, hy, u⟩ => ⟨a, xs, e, sq_tabs t s q, fun y hy => (r y hy).tabs t s, y, hy, u.tabs t s⟩
/-- the answers for a list's items -/
theorem isw_list {xs : List V} (h : ∀ y ∈ xs, TyIn H y anyTy) : ∃ bs : List Bool, bs.length = xs.length ∧ (∀ (i : Nat) (y : V) (b : Bool), xs[i]? = some y → bs[i]? = some b → IswIs K H y b) ∧ ((∃ y, y ∈ xs ∧ TyIn H y notInt) → bs.all id = false) := by
  induction xs with
  | nil => exact ⟨[], rfl, fun i y b e => (by simp at e), fun ⟨y, hy, _⟩ => (by cases hy)⟩
  | cons x r ih =>
    obtain ⟨bs, h1, h2, h3⟩ := ih fun y hy => h y (List.mem_cons_of_mem _ hy)
    by_cases hx : TyIn H x notInt
    · refine ⟨false :: bs, by rw [List.length_cons, List.length_cons, h1], fun i y b e1 e2 => ?_, fun _ => rfl⟩
      cases i with
      | zero => cases e1; cases e2; exact isw_not hx
      | succ i => exact h2 i y b e1 e2
    · obtain ⟨c, hc⟩ := isw_any (K := K) (h x List.mem_cons_self)
      refine ⟨c :: bs, by rw [List.length_cons, List.length_cons, h1], fun i y b e1 e2 => ?_, fun ⟨y, hy, hn⟩ => ?_⟩
      · cases i with
        | zero => cases e1; cases e2; exact hc
        | succ i => exact h2 i y b e1 e2
      · rcases List.mem_cons.mp hy with e | hy
        · exact absurd (e ▸ hn) hx
        · rw [List.all_cons, h3 ⟨y, hy, hn⟩, Bool.and_false]
end
end RFX
end
-- part P5X
section
set_option Elab.async false
set_option linter.all false
set_option maxRecDepth 100000
set_option maxHeartbeats 4000000
namespace K5
open PySem PySem.Spec PyProof.Rows L2 RFI K1 ZG CwR K2 RFX
section
variable {P : Program} {w : World} {K : PySem.W.Frag} {mg : Str → Option Value} {base : Heap} {Ts : List Addr}
/-- check_word of what is no word -/
def cdW (C : Addr) : List V → Hp → Addr → Prop := fun vs H D => ∃ x, vs = [x] ∧ D = C ∧ BadW H x
theorem bad_cw {C f : Addr} {fd : FuncData} (XC : XCls K mg "BadWord" C) (F : Fun K "check_word" "check_word" sCw f fd) (N : Nm mg) : FnOk P w K mg base (L2N.CX P w) 1 f fd ["word"] (spBad Ts (cdW C)) := by
  refine okN F scCw (fun vs H Q E h => ?_) (fun cdv A outer s H vs Q E hr h => ?_)
  · obtain ⟨_, ⟨x, rfl, _⟩, _⟩ := h
    rfl
  · obtain ⟨_, ⟨x, rfl, rfl, hx⟩, t, q⟩ := h
    refine ⟨_, pss_one (ps_if (PW.pt (pw_or (pt_not (pt_val (pe_callB call_isi (by rfl) N.isi boot_isinstance (pa_cons (pv 0) (pa_cons (pe_bltn (by rfl) N.str (u := .type "str") (v := .ty "str") (by decide +kernel) rfl) pa_nil)))))
        (pw_or1 (pt_cmpR op_ne (pe_op op_add (pe_m1 PySem.F.slot_str_count PySem.F.type_str_count mt_count (pv 0) pe_str) (pe_m1 PySem.F.slot_str_count PySem.F.type_str_count mt_count (pv 0) pe_str)) (pe_callB call_len_str (by rfl) N.len PySem.boot_len (pa_cons (pv 0) pa_nil)) (nomark _)))))
      (pss_one (ps_bad XC rfl (L2N.takes_of rfl rfl rfl rfl) (by rfl))) pss_nil), ?_⟩
    have fin := q H .refl t
    rcases hx with ⟨n, hn, ty⟩ | ⟨z, rfl, hz⟩
    · refine ⟨_, rfl, _, _, _, _, false, rfl, .ty "str", tyS_X ty, kit_notStr hn, false, rfl, ?_⟩
      exact iteT (iteT fin)
    · refine ⟨_, rfl, _, _, _, _, true, rfl, .ty "str", .base (.str _), kit_ty (by decide +kernel), true, rfl, iteF ?_⟩
      refine ⟨_, rfl, ⟨_, rfl⟩, _, _, rfl, rfl, _, rfl, ⟨_, rfl⟩, _, _, rfl, rfl, ?_⟩
      refine ⟨_, _, rfl, rfl, _, rfl, _, rfl, Nat.le_trans hz.1 (by decide), ?_⟩
      refine ⟨rfl, _, rfl, ite2 (fun _ => fin) fun e => ?_⟩
      have ne : ¬ (V.int (Txt.count z (Str.ofString "u") + Txt.count z (Str.ofString "d")) = V.int (z.length : Int)) := fun e' => odd_count hz (V.int.inj e')
      exact absurd (show (!decide (V.int (Txt.count z (Str.ofString "u") + Txt.count z (Str.ofString "d")) = V.int (z.length : Int))) = true by rw [decide_eq_false ne]; rfl) e
/-- check_row of what is no list of whole numbers -/
def cdR (K : PySem.W.Frag) (C : Addr) : List V → Hp → Addr → Prop := fun vs H D => ∃ x, vs = [x] ∧ D = C ∧ BadL K H x
theorem bad_cr {C f c T fI : Addr} {fd fdI : FuncData} (XC : XCls K mg "BadRow" C) (F : Fun K "check_row" "check_row" sCr f fd) (N : Nm mg) (hc : fd.code = .ref c) (TB : GxR.TabB base mg c T) (hT : T ∈ Ts) (FI : Fun K "is_whole" "is_whole" sIw fI fdI) (bI : Binds K fdI ["value"] []) (gI : mg "is_whole" = some (.ref fI)) :
    FnOk P w K mg base (L2N.CX P w) 2 f fd ["row"] (spBad Ts (cdR K C)) := by
  refine okNT F hc scCr (fun vs H Q E h => ?_) (fun A outer s H vs Q E hr h => ?_)
  · obtain ⟨_, ⟨x, rfl, _⟩, _⟩ := h
    rfl
  · obtain ⟨_, ⟨x, rfl, rfl, hx⟩, t, q⟩ := h
    refine ⟨_, pss_cons (ps_if (pt_not (pt_val (pe_callB call_isi (by rfl) N.isi boot_isinstance (pa_cons (pv 0) (pa_cons (pe_bltn (by rfl) N.list (u := .type "list") (v := .ty "list") (by decide +kernel) rfl) pa_nil))))) (pss_one (ps_bad XC rfl (L2N.takes_of rfl rfl rfl rfl) (by rfl))) pss_nil)
      (pss_one (ps_if (pt_not (pt_val (pe_allIsw FI scIw rfl rfl rfl rfl rfl bI N.isi N.int N.bool gI hr (by rfl) N.all TB rfl ⟨rfl, rfl, by decide +kernel, rfl, rfl, nofree_of rfl⟩ rfl (pv 0) (by intro _; rfl)))) (pss_one (ps_bad XC rfl (L2N.takes_of rfl rfl rfl rfl) (by rfl))) pss_nil)), ?_⟩
    rcases hx with ⟨n, hn, ty⟩ | ⟨a, xs, rfl, hS, hall, hsome⟩
    · refine ⟨_, rfl, _, _, _, _, false, rfl, .ty "list", tyS_X ty, kit_notList hn, false, rfl, ?_⟩
      exact iteT (q H .refl t)
    · refine ⟨_, rfl, _, _, _, _, true, rfl, .ty "list", ty_list hS, kit_ty (by decide +kernel), true, rfl, iteF ?_⟩
      obtain ⟨bs, b1, b2, b3⟩ := isw_list (K := K) hall
      refine ⟨_, rfl, a, xs, bs, rfl, hS, t T hT, b1, b2, fun H2 h2 => ?_⟩
      rw [b3 hsome]
      obtain ⟨s2, t2⟩ := tabbedT t hT h2
      exact ⟨false, rfl, iteT (q H2 s2 t2)⟩
/-- check_number of what is no number of an order -/
def cdN (C : Addr) : List V → Hp → Addr → Prop := fun vs H D => ∃ x m, vs = [x, .int m] ∧ D = C ∧ BadN H x m
/-- is_whole of anything -/
def spIw (K : PySem.W.Frag) : Sp := fun vs H Q _ => ∃ x b, vs = [x] ∧ IswIs K H x b ∧ Q (.bl b) H
theorem any_iw {f : Addr} {fd : FuncData} (F : Fun K "is_whole" "is_whole" sIw f fd) (N : Nm mg) : FnOk P w K mg base CX0 1 f fd ["value"] (spIw K) := by
  refine F.ok scIw (fun vs H Q E h => ?_) (fun cdv A outer s H vs Q E hr h => ?_)
  · obtain ⟨x, b, rfl, _⟩ := h
    rfl
  · obtain ⟨x, b, rfl, ⟨u, b1, b2, ty, k1, k2, rfl⟩, q⟩ := h
    refine ⟨_, pss_one (ps_ret (pe_and (pe_callB call_isi (by rfl) N.isi boot_isinstance (pa_cons (pv 0) (pa_cons (pe_bltn (by rfl) N.int (u := .type "int") (v := .ty "int") (by decide +kernel) rfl) pa_nil)))
      (pe_one (pe_not (pe_callB call_isi (by rfl) N.isi boot_isinstance (pa_cons (pv 0) (pa_cons (pe_bltn (by rfl) N.bool (u := .type "bool") (v := .ty "bool") (by decide +kernel) rfl) pa_nil))))))), ?_⟩
    refine ⟨_, rfl, _, _, _, _, b1, rfl, .ty "int", tyS_X ty, k1, b1, rfl, ite2 (fun e => ?_) fun e => ?_⟩
    · rw [show b1 = true from e] at q
      exact ⟨_, rfl, _, _, _, _, b2, rfl, .ty "bool", tyS_X ty, k2, b2, rfl, q⟩
    · rw [show b1 = false by simpa using e] at q
      exact q
theorem bad_cn {C f fI : Addr} {fd fdI : FuncData} (XC : XCls K mg "BadNumber" C) (F : Fun K "check_number" "check_number" sCn f fd) (N : Nm mg) (FI : Fun K "is_whole" "is_whole" sIw fI fdI) (bI : Binds K fdI ["value"] []) (gI : mg "is_whole" = some (.ref fI)) :
    FnOk P w K mg base (L2N.CX P w) 2 f fd ["number", "many"] (spBad Ts (cdN C)) := by
  have GI : FnOk P w K mg base CX0 1 fI fdI ["value"] (spIw K) := any_iw FI N
  refine okN F scCn (fun vs H Q E h => ?_) (fun cdv A outer s H vs Q E hr h => ?_)
  · obtain ⟨_, ⟨x, m, rfl, _⟩, _⟩ := h
    rfl
  · obtain ⟨_, ⟨x, m, rfl, rfl, hx⟩, t, q⟩ := h
    refine ⟨_, pss_one (ps_if (PW.pt (pw_or (pt_not (pt_val (pe_call GI hr (by rfl) gI FI.kp bI .nil pass0 (pa_cons (pv 0) pa_nil)))) (pw_or1 (pt_not (pt_chain op_le op_lt pe_int (pv 0) (pv 1)))))) (pss_one (ps_bad XC rfl (L2N.takes_of rfl rfl rfl rfl) (by rfl))) pss_nil), ?_⟩
    have fin := q H .refl t
    rcases hx with hn | ⟨i, rfl, hi⟩
    · exact ⟨_, rfl, x, false, rfl, isw_not hn, false, rfl, iteT (iteT fin)⟩
    · refine ⟨_, rfl, .int i, true, rfl, isw_int, true, rfl, iteF ?_⟩
      refine ⟨_, rfl, _, _, rfl, rfl, _, rfl, ?_⟩
      by_cases h0 : 0 ≤ i
      · rw [decide_eq_true h0]
        refine iteT ⟨_, rfl, _, _, rfl, rfl, _, rfl, ?_⟩
        rw [decide_eq_false (show ¬ i < m by omega)]
        exact iteT fin
      · rw [decide_eq_false h0]
        exact iteF ⟨false, rfl, iteT fin⟩
/-- word_of of what has no word -/
def NoW (K : PySem.W.Frag) (H : Hp) (x : V) : Prop := BadL K H x ∨ ∃ a ns, x = .ref a ∧ SqL K H a (ns.map V.int) ∧ ClI K H a (ns.map V.int) ∧ ns.length ≤ 900 ∧ (ns = [] ∨ ∃ (i : Nat) (z : Int), ns[i]? = some z ∧ ns[i + 1]? = some z)
def cdO (K : PySem.W.Frag) (C : Addr) : List V → Hp → Addr → Prop := fun vs H D => ∃ x, vs = [x] ∧ D = C ∧ NoW K H x
theorem bad_wo {C f fC : Addr} {fd fdC : FuncData} (XC : XCls K mg "BadRow" C) (F : Fun K "word_of" "word_of" sWo f fd) (N : Nm mg) (FC : Fun K "check_row" "check_row" sCr fC fdC) (bC : Binds K fdC ["row"] []) (gC : mg "check_row" = some (.ref fC))
    (GC : FnOk P w K mg base CX0 2 fC fdC ["row"] (spCrT K Ts)) (BC : FnOk P w K mg base (L2N.CX P w) 2 fC fdC ["row"] (spBad Ts (cdR K C))) : FnOk P w K mg base (L2N.CX P w) 3 f fd ["row"] (spBad Ts (cdO K C)) := by
  refine okN F scWo (fun vs H Q E h => ?_) (fun cdv A outer s H vs Q E hr h => ?_)
  · obtain ⟨_, ⟨x, rfl, _⟩, _⟩ := h
    rfl
  · obtain ⟨_, ⟨x, rfl, rfl, hx⟩, t, q⟩ := h
    rcases hx with hx | ⟨a, ns, rfl, hS, hCl, hl2, hd⟩
    · refine ⟨_, pss_cons (ps_expr (pe_callS BC hr (by rfl) gC FC.kp bC (fun σ => L2N.passAt (L2N.takes_of rfl rfl rfl rfl) σ) (pa_cons (pv 0) pa_nil))) pss_nev, ?_⟩
      exact ⟨_, rfl, _, ⟨x, rfl, rfl, hx⟩, t, fun H' s' t' => q H' s' t'⟩
    · refine ⟨_, pss_cons (ps_expr (pe_call GC hr (by rfl) gC FC.kp bC .nil pass0 (pa_cons (pv 0) pa_nil)))
        (pss_cons (ps_if (pt_not (pt_truth (pv 0) (by intro _; rfl))) (pss_one (ps_bad XC rfl (L2N.takes_of rfl rfl rfl rfl) (by rfl))) pss_nil)
        (pss_cons (ps_set (i := 1) scWo.nd rfl (.inl rfl) (pe_lst pa_nil))
        (pss_cons (ps_for (passes_of rfl) rfl (pi_pw (by rfl) N.pw (pa_cons (pv 0) pa_nil))
            (pg_tup rfl (pgs_cons (pg_name (i := 2) scWo.nd rfl (.inl rfl)) (pgs_cons (pg_name (i := 3) scWo.nd rfl (.inl rfl)) pgs_nil)))
          (pss_cons (ps_if (pt_cmpR op_eq (pv 2) (pv 3) (nomark _)) (pss_one (ps_bad XC rfl (L2N.takes_of rfl rfl rfl rfl) (by rfl))) pss_nil)
          (pss_one (ps_expr (pe_bm PySem.F.plainAttrs_list PySem.F.slot_list_append PySem.F.type_list_append mt_append (pv 1) (pa_cons (pe_ifExp (pt_cmpR op_lt (pv 2) (pv 3) (nomark _)) pe_str pe_str) pa_nil)))))) pss_nev))), ?_⟩
      refine ⟨_, rfl, a, ns, rfl, hS, t, fun H1 s1 t1 => ?_⟩
      have hS1 := sq_tabs t s1 hS
      have hC1 := clI_tabs t s1 hCl
      by_cases hne : ns = []
      · subst hne
        exact ⟨_, rfl, false, .inl ⟨_, hS1, rfl⟩, iteT (q H1 s1 t1)⟩
      have hne2 : (ns.map V.int).isEmpty = false := by cases ns with | nil => exact absurd rfl hne | cons _ _ => rfl
      refine ⟨_, rfl, true, .inl ⟨_, hS1, by rw [hne2]; rfl⟩, iteF ?_⟩
      refine ⟨Nat.zero_le _, fun o no => ?_⟩
      have s2 : SameT Ts H1 (upd H1 o (.lst [])) := sameT (same_upd no)
      refine ⟨_, rfl, a, ns.map V.int, rfl, (same_upd no).seq hS1, for_pw (fun i σ H3 => ∃ x2 x3 zs, σ = [some (.ref a), some (.ref o), x2, x3] ∧ SameT Ts H1 H3 ∧ TabsG H3 Ts ∧ H3 o = some (.lst zs) ∧ zs.length = i ∧ i ≤ ns.length ∧ ∀ (j : Nat) (z : Int), j < i → ns[j]? = some z → ns[j + 1]? ≠ some z)
        ⟨none, none, [], rfl, s2, t1.same (same_upd no), upd_same, rfl, Nat.zero_le _, fun j z h => absurd h (Nat.not_lt_zero _)⟩ (fun i σ H3 hW => ?_) (fun i x y U σ H3 hx hy hW nU => ?_) (fun σ H3 hW => ?_)⟩
      · obtain ⟨x2, x3, zs, rfl, s3, t3, _⟩ := hW
        exact ⟨sq_tabs t1 s3 hS1, clI_tabs t1 s3 hC1⟩
      · obtain ⟨x2, x3, zs, rfl, s3, t3, e3, hz, hi, hno⟩ := hW
        obtain ⟨m, em, rfl⟩ := map_get hx
        obtain ⟨n, en, rfl⟩ := map_get hy
        have hil : i + 1 < ns.length := (List.getElem?_eq_some_iff.mp en).1
        have sU := same_upd (o := .tup [V.int m, V.int n]) nU
        refine ⟨U, _, rfl, .inl (.inl upd_same), rfl, _, _, rfl, _, _, rfl, rfl, ?_⟩
        refine ⟨_, rfl, _, rfl, rfl, _, rfl, ite2 (fun e => ?_) (fun e => ?_)⟩
        · exact q _ (s1.trans (s3.trans (sameT sU))) (t3.same sU)
        have emn : m ≠ n := fun z => e (by rw [z]; simp)
        have nUo : o ≠ U := ne_of_none e3 nU
        have eo : upd H3 U (.tup [V.int m, V.int n]) o = some (.lst zs) := by rw [upd_ne nUo]; exact e3
        have fin : ∀ (z : V), ∃ l xs y, V.ref o = .ref l ∧ [z] = [y] ∧ upd H3 U (.tup [V.int m, V.int n]) l = some (.lst xs) ∧ xs.length < sizeLine ∧
            (∃ x2 x3 zs, ([some (.ref a), some (.ref o), some (V.int m), some (V.int n)] : L2.St) = [some (.ref a), some (.ref o), x2, x3] ∧ SameT Ts H1 (upd (upd H3 U (.tup [V.int m, V.int n])) l (.lst (xs ++ [y]))) ∧ TabsG (upd (upd H3 U (.tup [V.int m, V.int n])) l (.lst (xs ++ [y]))) Ts ∧
              upd (upd H3 U (.tup [V.int m, V.int n])) l (.lst (xs ++ [y])) o = some (.lst zs) ∧ zs.length = i + 1 ∧ i + 1 ≤ ns.length ∧ ∀ (j : Nat) (z : Int), j < i + 1 → ns[j]? = some z → ns[j + 1]? ≠ some z) := by
          intro z
          refine ⟨o, zs, z, rfl, rfl, eo, ?_, _, _, zs ++ [z], rfl, fun b ob hb e => ?_, fun T hT => ?_, upd_same, by rw [List.length_append, hz]; rfl, by omega, fun j y hj e1 e2 => ?_⟩
          · exact Nat.lt_of_le_of_lt (show zs.length ≤ 900 by omega) (by decide)
          · have nb : b ≠ o := ne_of_none e no
            rw [upd_ne nb]
            exact sU b ob (s3 b ob hb e)
          · obtain ⟨ps, eP, hp⟩ := t3 T hT
            have nTo : T ≠ o := ne_of eP e3 (fun z => by cases z)
            exact ⟨ps, by rw [upd_ne nTo]; exact sU T _ eP, hp⟩
          · by_cases ej : j = i
            · subst ej
              rw [em] at e1
              rw [en] at e2
              exact emn ((Option.some.inj e1).trans (Option.some.inj e2).symm)
            · exact hno j y (by omega) e1 e2
        exact ⟨_, rfl, .inl ⟨rfl, _, .inl (.inl eo)⟩, _, rfl, _, rfl, m, n, rfl, rfl, _, rfl, ite2 (fun _ => fin _) (fun _ => fin _)⟩
      · obtain ⟨x2, x3, zs, rfl, s3, t3, e3, hz, hi, hno⟩ := hW
        rw [List.length_map] at hno
        rcases hd with hd | ⟨i, z, e1, e2⟩
        · exact hne hd
        · have hil : i + 1 < ns.length := (List.getElem?_eq_some_iff.mp e2).1
          exact hno i z (by omega) e1 e2
end
end K5
end
-- part RWrong
section
set_option Elab.async false
set_option linter.all false
set_option maxRecDepth 100000
set_option maxHeartbeats 2000000
/-! Lists that are no orders; slices; places told by a step. -/
namespace RFX
open PySem PySem.Spec PyProof.Rows L2 RFI K1 K2 ZG
/-! ### no order -/
theorem mem_upto {n : Nat} {x : Int} : x ∈ upto n ↔ 0 ≤ x ∧ x < n := by
  unfold upto
  rw [List.mem_map]
  constructor
  · rintro ⟨k, hk, rfl⟩
    have := List.mem_range.mp hk
    exact ⟨Int.natCast_nonneg k, Int.ofNat_lt.mpr this⟩
  · rintro ⟨h0, h1⟩
    exact ⟨x.toNat, List.mem_range.mpr (by omega), by show ((x.toNat : Nat) : Int) = x; omega⟩
theorem np_len {ns : List Int} {n : Nat} (h : ns.length ≠ n) : ¬ ns.Perm (upto n) := fun p => h (by rw [p.length_eq]; unfold upto; rw [List.length_map, List.length_range])
theorem np_mem {ns : List Int} {n : Nat} {x : Int} (hx : x ∈ ns) (h : x < 0 ∨ (n : Int) ≤ x) : ¬ ns.Perm (upto n) := fun p => by
  have := mem_upto.mp (p.mem_iff.mp hx)
  omega
theorem np_dup {ns : List Int} {n : Nat} (h : ¬ ns.Nodup) : ¬ ns.Perm (upto n) := fun p => h (p.nodup_iff.mpr (by
  unfold upto
  exact List.Pairwise.map _ (fun a b h e => h (Int.ofNat.inj e)) List.nodup_range))
/-- what is no order for the word, or has another one -/
def BadO (K : PySem.W.Frag) (H : Hp) (l : List Bool) (x : V) : Prop := BadL K H x ∨ ∃ a ns, x = .ref a ∧ SqL K H a (ns.map V.int) ∧ ns.length ≤ 900 ∧
  (¬ ns.Perm (upto (l.length + 1)) ∨ (ns.Perm (upto (l.length + 1)) ∧ byOf ns ≠ l ∧ ClI K H a (ns.map V.int)))
section
variable {K : PySem.W.Frag} {H H' : Hp} {Ts : List Addr} {l : List Bool} {x : V}
theorem BadO.tabs (h : BadO K H l x) (t : TabsG H Ts) (s : SameT Ts H H') : BadO K H' l x :=
  h.imp (fun h => h.tabs t s) fun ⟨a, ns, e, q, n, r⟩ => ⟨a, ns, e, sq_tabs t s q, n, r.imp id fun ⟨r1, r2, r3⟩ => ⟨r1, r2, clI_tabs t s r3⟩⟩
theorem no_tabs : TabsG H [] := fun _ z => nomatch z
theorem BadW.same (h : BadW H x) (s : Same H H') : BadW H' x := h.tabs (Ts := []) no_tabs (sameT s)
theorem BadN.same {m : Int} (h : BadN H x m) (s : Same H H') : BadN H' x m := h.tabs (Ts := []) no_tabs (sameT s)
theorem BadL.same (h : BadL K H x) (s : Same H H') : BadL K H' x := h.tabs (Ts := []) no_tabs (sameT s)
theorem BadO.same (h : BadO K H l x) (s : Same H H') : BadO K H' l x := h.tabs (Ts := []) no_tabs (sameT s)
theorem badO_np {a : Addr} {ns : List Int} (h : SqL K H a (ns.map V.int)) (n : ns.length ≤ 900) (p : ¬ ns.Perm (upto (l.length + 1))) : BadO K H l (.ref a) := .inr ⟨a, ns, rfl, h, n, .inl p⟩
theorem badO_ty {n : String} (hn : n ∈ notList) (h : TyS H x (.type n)) : BadO K H l x := .inl (.inl ⟨n, hn, h⟩)
theorem badL_ty {n : String} (hn : n ∈ notList) (h : TyS H x (.type n)) : BadL K H x := .inl ⟨n, hn, h⟩
theorem int_any {i : Int} : TyIn H (.int i) anyTy := ⟨"int", by decide, .int i⟩
/-- a list of whole numbers but for one item -/
theorem badL_mix {a : Addr} {ns ms : List Int} {y : V} (h : SqL K H a (ns.map V.int ++ [y] ++ ms.map V.int)) (hy : TyIn H y notInt) : BadL K H (.ref a) := by
  refine .inr ⟨a, _, rfl, h, fun z hz => ?_, y, by simp, hy⟩
  rcases List.mem_append.mp hz with hz | hz
  · rcases List.mem_append.mp hz with hz | hz
    · obtain ⟨n, _, rfl⟩ := List.mem_map.mp hz
      exact int_any
    · rw [List.mem_singleton.mp hz]
      obtain ⟨n, hn, t⟩ := hy
      refine ⟨n, ?_, t⟩
      simp only [List.mem_cons, List.not_mem_nil, or_false] at hn ⊢
      rcases hn with rfl | rfl | rfl | rfl | rfl | rfl <;> simp
  · obtain ⟨n, _, rfl⟩ := List.mem_map.mp hz
    exact int_any
end
theorem dup_first {a b : Int} {r : List Int} : ¬ ((a :: b :: r).dropLast ++ (a :: b :: r).take 1).Nodup := fun h =>
  (List.nodup_cons.mp (show (a :: ((b :: r).dropLast ++ [a])).Nodup from h)).1 (by simp)
theorem dup_next {a b : Int} {r : List Int} : ¬ ((a :: b :: r).drop 1 ++ ((a :: b :: r).drop 1).take 1).Nodup := fun h =>
  (List.nodup_cons.mp (show (b :: (r ++ [b])).Nodup from h)).1 (by simp)
theorem swap_by {a b : Int} {r : List Int} (h : a ≠ b) : byOf (b :: a :: r) ≠ byOf (a :: b :: r) := fun e => by
  have e1 : decide (b < a) = decide (a < b) := (List.cons.inj (show decide (b < a) :: byOf (a :: r) = decide (a < b) :: byOf (b :: r) from e)).1
  by_cases h1 : a < b
  · rw [decide_eq_true h1, decide_eq_false (by omega)] at e1
    cases e1
  · rw [decide_eq_false h1, decide_eq_true (by omega)] at e1
    cases e1
/-! ### slices -/
theorem cut_last (xs : List V) : cutV xs none (some (-1)) = xs.dropLast := by
  unfold cutV
  have e : HT.sIx xs.length xs.length (some (-1)) = xs.length - 1 := by
    show (if (-1 : Int) < 0 then ((-1 : Int) + (xs.length : Int)).toNat else min (-1 : Int).toNat xs.length) = _
    rw [if_pos (by decide)]
    omega
  rw [e, HT.sIx_none, Nat.sub_zero, List.drop_zero, List.dropLast_eq_take]
theorem cut_one (xs : List V) : cutV xs none (some 1) = xs.take 1 := cut_take xs 1
theorem cut_rest (xs : List V) : cutV xs (some 1) none = xs.drop 1 := cut_drop xs 1
theorem cut_from2 (xs : List V) : cutV xs (some 2) none = xs.drop 2 := cut_drop xs 2
theorem cut_12 {xs : List V} (h : 2 ≤ xs.length) : cutV xs (some 1) (some 2) = (xs.drop 1).take 1 := by
  unfold cutV
  rw [show (some 1 : Option Int) = some ((1 : Nat) : Int) from rfl, show (some 2 : Option Int) = some ((2 : Nat) : Int) from rfl, HT.sIx_nat, HT.sIx_nat, Nat.min_eq_left h, Nat.min_eq_left (by omega)]
/-! ### places by a step -/
def rgN (m : Nat) : Nat := (Builtin.Range.rangeSize 0 (m : Int) (1 + (m : Int) / 6)).toNat
theorem rg_all : ∀ m : Nat, m < 101 → ((1 + (m : Int) / 6 ≠ 0 ∧ (1 + (m : Int) / 6).natAbs < 1073741824 ∧ Builtin.Range.small 0 (m : Int) (1 + (m : Int) / 6) = true ∧ Builtin.Range.rangeSize 0 (m : Int) (1 + (m : Int) / 6) = (rgN m : Int)) ∧ rgN m ≤ 100) := by decide +kernel
theorem rg_in : ∀ m : Nat, m < 101 → ∀ i : Nat, i < rgN m → i * (1 + m / 6) < m := by
  have h : ∀ m : Nat, m < 101 → (rgN m = 0 ∨ (rgN m - 1) * (1 + m / 6) < m) := by decide +kernel
  intro m hm i hi
  rcases h m hm with h | h
  · omega
  · exact Nat.lt_of_le_of_lt (Nat.mul_le_mul_right _ (by omega)) h
theorem rg_ok {m : Nat} (h : m ≤ 100) : RgC 0 (m : Int) (1 + (m : Int) / 6) (rgN m) ∧ rgN m ≤ 100 ∧ ∀ i : Nat, i < rgN m → ∃ k : Nat, (0 : Int) + ((i : Nat) : Int) * (1 + (m : Int) / 6) = (k : Int) ∧ k < m := by
  obtain ⟨h1, h2⟩ := rg_all m (by omega)
  refine ⟨h1, h2, fun i hi => ⟨i * (1 + m / 6), ?_, rg_in m (by omega) i hi⟩⟩
  rw [Int.zero_add, Int.natCast_mul, Int.natCast_add, Int.natCast_ediv]
  rfl
end RFX
end
-- part P5Y
section
set_option Elab.async false
set_option linter.all false
set_option maxRecDepth 100000
set_option maxHeartbeats 4000000
namespace K5
open PySem PySem.Spec PyProof.Rows L2 RFI K1 ZG CwR K2 RFX
theorem scCo : FnScope ["word"] ["word"] (defScope sCo) := ⟨rfl, rfl, rfl, by decide +kernel, rfl, by decide +kernel, by decide +kernel⟩
theorem scLo : FnScope ["row", "cuts"] ["row"] (defScope sLo) := ⟨rfl, rfl, rfl, by decide +kernel, rfl, by decide +kernel, by decide +kernel⟩
abbrev nNf : List Str := ["word", "order", "ways", "left", "number", "rank", "letter", "value", "least"]
theorem scNf : FnScope nNf ["word", "order"] (defScope sNf) := ⟨rfl, rfl, rfl, by decide +kernel, rfl, by decide +kernel, by decide +kernel⟩
theorem wd_ne {l m : List Bool} (h : l ≠ m) : wd l ≠ wd m := fun e => h (by
  have e2 : (wd l).cps.toList = (wd m).cps.toList := by rw [e]
  unfold wd at e2
  rw [tx_list, tx_list] at e2
  refine List.map_inj_right (fun a b h => ?_) |>.mp e2
  cases a <;> cases b <;> first | rfl | (revert h; decide))
section
variable {P : Program} {w : World} {K : PySem.W.Frag} {mg : Str → Option Value} {base : Heap} {Ts : List Addr}
def cdK (K : PySem.W.Frag) (C : Addr) : List V → Hp → Addr → Prop := fun vs H D => ∃ l x, vs = [.str (wd l), x] ∧ l.length ≤ 800 ∧ D = C ∧ BadO K H l x
theorem bad_ck {C f c T fI fO : Addr} {fd fdI fdO : FuncData} (XC : XCls K mg "BadOrder" C) (F : Fun K "check_order" "check_order" sCk f fd) (N : Nm mg) (Z : mg "sorted" = none) (hc : fd.code = .ref c) (TB : GxR.TabB base mg c T) (hT : T ∈ Ts)
    (FI : Fun K "is_whole" "is_whole" sIw fI fdI) (bI : Binds K fdI ["value"] []) (gI : mg "is_whole" = some (.ref fI)) (FO : Fun K "word_of" "word_of" sWo fO fdO) (GO : FnOk P w K mg base CX0 3 fO fdO ["row"] (spWoT K Ts)) (bO : Binds K fdO ["row"] []) (gO : mg "word_of" = some (.ref fO)) :
    FnOk P w K mg base (L2N.CX P w) 4 f fd ["word", "order"] (spBad Ts (cdK K C)) := by
  refine okNT F hc scCk (fun vs H Q E h => ?_) (fun A outer s H vs Q E hr h => ?_)
  · obtain ⟨_, ⟨l, x, rfl, _⟩, _⟩ := h
    rfl
  · obtain ⟨_, ⟨l, x, rfl, hl, rfl, hx⟩, t, q⟩ := h
    have hr1 := hr.mono (show 1 ≤ 3 by decide)
    refine ⟨_, pss_cons (ps_if (PW.pt (pw_or (pt_not (pt_val (pe_callB call_isi (by rfl) N.isi boot_isinstance (pa_cons (pv 1) (pa_cons (pe_bltn (by rfl) N.list (u := .type "list") (v := .ty "list") (by decide +kernel) rfl) pa_nil)))))
          (pw_or1 (pt_not (pt_val (pe_allIsw FI scIw rfl rfl rfl rfl rfl bI N.isi N.int N.bool gI hr1 (by rfl) N.all TB rfl ⟨rfl, rfl, by decide +kernel, rfl, rfl, nofree_of rfl⟩ rfl (pv 1) (by intro _; rfl))))))) (pss_one (ps_bad XC rfl (L2N.takes_of rfl rfl rfl rfl) (by rfl))) pss_nil)
      (pss_cons (ps_if (pt_cmpR (op_neD hr.units) (pe_callB cr_sortedI (by rfl) Z (by decide +kernel) (pa_cons (pv 1) pa_nil)) (pe_listRg rfl (by rfl) N.list (prg_1 (by rfl) N.range (pe_op op_add (pe_callB call_len_str (by rfl) N.len PySem.boot_len (pa_cons (pv 0) pa_nil)) pe_int))) (nomark _)) (pss_one (ps_bad XC rfl (L2N.takes_of rfl rfl rfl rfl) (by rfl))) pss_nil)
      (pss_one (ps_if (pt_cmpR op_ne (pe_call GO hr (by rfl) gO FO.kp bO .nil pass0 (pa_cons (pv 1) pa_nil)) (pv 0) (nomark _)) (pss_one (ps_bad XC rfl (L2N.takes_of rfl rfl rfl rfl) (by rfl))) pss_nil))), ?_⟩
    have hsm : (2000 : Nat) ≤ sizeLine := by decide
    rcases hx with (⟨n, hn, ty⟩ | ⟨a, xs, rfl, hS, hall, hsome⟩) | ⟨a, ns, rfl, hS, hnl, hp⟩
    · refine ⟨_, rfl, _, _, _, _, false, rfl, .ty "list", tyS_X ty, kit_notList hn, false, rfl, ?_⟩
      exact iteT (iteT (q H .refl t))
    · refine ⟨_, rfl, _, _, _, _, true, rfl, .ty "list", ty_list hS, kit_ty (by decide +kernel), true, rfl, iteF ?_⟩
      obtain ⟨bs, b1, b2, b3⟩ := isw_list (K := K) hall
      refine ⟨_, rfl, a, xs, bs, rfl, hS, t T hT, b1, b2, fun H2 h2 => ?_⟩
      rw [b3 hsome]
      obtain ⟨s2, t2⟩ := tabbedT t hT h2
      exact ⟨false, rfl, iteT (q H2 s2 t2)⟩
    · refine ⟨_, rfl, _, _, _, _, true, rfl, .ty "list", ty_list hS, kit_ty (by decide +kernel), true, rfl, iteF ?_⟩
      refine ⟨_, rfl, a, ns.map V.int, ns.map (fun _ => true), rfl, hS, t T hT, by simp, fun i y b hy hb => ?_, fun H2 h2 => ?_⟩
      · obtain ⟨n, _, rfl⟩ := map_get hy
        obtain ⟨_, _, rfl⟩ := map_get hb
        exact isw_int
      obtain ⟨s2, t2⟩ := tabbedT t hT h2
      have eT : (ns.map (fun _ => true)).all id = true := by simp
      rw [eT]
      refine ⟨true, rfl, iteF ?_⟩
      have hA2 := sq_tabs t s2 hS
      refine ⟨_, rfl, a, ns, rfl, hA2, fun gs p1 perm ris n1 => ?_⟩
      have u1 := same_upd (o := .lst (gs.map V.int)) n1
      refine ⟨_, rfl, _, rfl, by rw [wd_len]; exact Nat.le_trans (show l.length ≤ 2000 by omega) hsm, _, _, rfl, rfl, _, rfl, ?_, fun p2 n2 => ?_⟩
      · rw [wd_len]
        exact .of_le (by decide) (by omega) (by decide) (by omega)
      have u2 := u1.trans (same_upd (o := .lst (rgV 0 (((wd l).length : Int) + 1))) n2)
      have n12 : p1 ≠ p2 := ne_of_none upd_same n2
      have er : rgV 0 (((wd l).length : Int) + 1) = (upto (l.length + 1)).map V.int := by
        rw [wd_len, ← rgV_upto]
        rfl
      refine ⟨_, _, dp_list (ns := gs) (.inl (.inl (by rw [upd_ne n12, upd_same]))), dp_list (ns := upto (l.length + 1)) (.inl (.inl (by rw [upd_same, er]))), PySem.W.shaped_ints _, PySem.W.shaped_ints _, ?_⟩
      have S3 := s2.trans (sameT u2)
      rcases hp with hp | ⟨hp, hby, hCl⟩
      · rw [eqv_ints, decide_eq_false (show ¬ gs = upto (l.length + 1) from fun e => hp (by rw [← e]; exact perm.symm))]
        exact ⟨_, rfl, iteT (q _ S3 (t2.same u2))⟩
      · have eg : gs = upto (l.length + 1) := perm_sorted (perm.trans hp) ris (upto_rise _)
        rw [eqv_ints, decide_eq_true eg]
        refine ⟨_, rfl, iteF ?_⟩
        have nd : ns.Nodup := hp.nodup_iff.mpr (upto_nodup _)
        have hfl : ns.length = l.length + 1 := by rw [hp.length_eq, upto_len]
        refine ⟨_, rfl, a, ns, rfl, u2.seq hA2, clI_same (clI_tabs t s2 hCl) u2, t2.same u2, by omega, by omega, fun i x y hx hy e => ?_, fun H3 s3 t3 => ?_⟩
        · obtain ⟨h1, e1⟩ := List.getElem?_eq_some_iff.mp hx
          obtain ⟨h2, e2⟩ := List.getElem?_eq_some_iff.mp hy
          exact List.pairwise_iff_getElem.mp nd i (i + 1) h1 h2 (Nat.lt_succ_self i) (by rw [e1, e2, e])
        have ne : ¬ (V.str (wd (byOf ns)) = V.str (wd l)) := fun e => wd_ne hby (V.str.inj e)
        refine ⟨_, rfl, rfl, _, rfl, ite2 (fun _ => q H3 (S3.trans s3) t3) fun e => ?_⟩
        exact absurd (show (!decide (V.str (wd (byOf ns)) = V.str (wd l))) = true by rw [decide_eq_false ne]; rfl) e
theorem bad_co {C f fC : Addr} {fd fdC : FuncData} (F : Fun K "count" "count" sCo f fd) (FC : Fun K "check_word" "check_word" sCw fC fdC) (bC : Binds K fdC ["word"] []) (gC : mg "check_word" = some (.ref fC))
    (BC : FnOk P w K mg base (L2N.CX P w) 1 fC fdC ["word"] (spBad Ts (cdW C))) : FnOk P w K mg base (L2N.CX P w) 2 f fd ["word"] (spBad Ts (cdW C)) := by
  refine okN F scCo (fun vs H Q E h => ?_) (fun cdv A outer s H vs Q E hr h => ?_)
  · obtain ⟨_, ⟨x, rfl, _⟩, _⟩ := h
    rfl
  · obtain ⟨_, ⟨x, rfl, rfl, hx⟩, t, q⟩ := h
    exact ⟨_, pss_cons (ps_expr (pe_callS BC hr (by rfl) gC FC.kp bC (fun σ => L2N.passAt (L2N.takes_of rfl rfl rfl rfl) σ) (pa_cons (pv 0) pa_nil))) pss_nev, _, rfl, _, ⟨x, rfl, rfl, hx⟩, t, fun H' s' t' => q H' s' t'⟩
theorem bad_lo {C f fC : Addr} {fd fdC : FuncData} (F : Fun K "longest" "longest" sLo f fd) (FC : Fun K "check_row" "check_row" sCr fC fdC) (bC : Binds K fdC ["row"] []) (gC : mg "check_row" = some (.ref fC))
    (BC : FnOk P w K mg base (L2N.CX P w) 2 fC fdC ["row"] (spBad Ts (cdR K C))) : FnOk P w K mg base (L2N.CX P w) 3 f fd ["row"] (spBad Ts (cdR K C)) := by
  refine okN F scLo (fun vs H Q E h => ?_) (fun cdv A outer s H vs Q E hr h => ?_)
  · obtain ⟨_, ⟨x, rfl, _⟩, _⟩ := h
    rfl
  · obtain ⟨_, ⟨x, rfl, rfl, hx⟩, t, q⟩ := h
    exact ⟨_, pss_cons (ps_expr (pe_callS BC hr (by rfl) gC FC.kp bC (fun σ => L2N.passAt (L2N.takes_of rfl rfl rfl rfl) σ) (pa_cons (pv 0) pa_nil))) pss_nev, _, rfl, _, ⟨x, rfl, rfl, hx⟩, t, fun H' s' t' => q H' s' t'⟩
/-- order_of of no word, or of a word and no number of it -/
def cdOf (CW CN : Addr) : List V → Hp → Addr → Prop := fun vs H D => ∃ x y, vs = [x, y] ∧ ((BadW H x ∧ D = CW) ∨ ∃ l : List Bool, x = .str (wd l) ∧ l.length ≤ 800 ∧ BadN H y (RF.cnt l) ∧ D = CN)
theorem bad_of {CW CN f fW fA fN : Addr} {fd fdW fdA fdN : FuncData} (F : Fun K "order_of" "order_of" sOf f fd) (N : Nm mg)
    (FW : Fun K "check_word" "check_word" sCw fW fdW) (bW : Binds K fdW ["word"] []) (gW : mg "check_word" = some (.ref fW)) (BW : FnOk P w K mg base (L2N.CX P w) 1 fW fdW ["word"] (spBad Ts (cdW CW)))
    (FA : Fun K "ways_ahead" "ways_ahead" sWa fA fdA) (GA : FnOk P w K mg base CX0 3 fA fdA ["word"] (spWa K)) (bA : Binds K fdA ["word"] []) (gA : mg "ways_ahead" = some (.ref fA))
    (FN : Fun K "check_number" "check_number" sCn fN fdN) (BN : FnOk P w K mg base (L2N.CX P w) 2 fN fdN ["number", "many"] (spBad Ts (cdN CN))) (bN : Binds K fdN ["number", "many"] []) (gN : mg "check_number" = some (.ref fN)) :
    FnOk P w K mg base (L2N.CX P w) 4 f fd ["word", "number"] (spBad Ts (cdOf CW CN)) := by
  have GW : FnOk P w K mg base CX0 1 fW fdW ["word"] spCw := ok_cw FW N
  refine okN F scOf (fun vs H Q E h => ?_) (fun cdv A outer s H vs Q E hr h => ?_)
  · obtain ⟨_, ⟨x, y, rfl, _⟩, _⟩ := h
    rfl
  · obtain ⟨_, ⟨x, y, rfl, hx⟩, t, q⟩ := h
    have nd := scOf.nd
    have hr1 := hr.mono (show 1 ≤ 3 by decide)
    have hr2 := hr.mono (show 2 ≤ 3 by decide)
    rcases hx with ⟨hx, rfl⟩ | ⟨l, rfl, hl, hy, rfl⟩
    · exact ⟨_, pss_cons (ps_expr (pe_callS BW hr1 (by rfl) gW FW.kp bW (fun σ => L2N.passAt (L2N.takes_of rfl rfl rfl rfl) σ) (pa_cons (pv 0) pa_nil))) pss_nev, _, rfl, _, ⟨x, rfl, rfl, hx⟩, t, fun H' s' t' => q H' s' t'⟩
    · refine ⟨_, pss_cons (ps_expr (pe_call GW hr1 (by rfl) gW FW.kp bW .nil pass0 (pa_cons (pv 0) pa_nil)))
        (pss_cons (ps_set (i := 2) nd rfl (.inl rfl) (pe_call GA hr (by rfl) gA FA.kp bA .nil pass0 (pa_cons (pv 0) pa_nil)))
        (pss_cons (ps_expr (pe_callS BN hr2 (by rfl) gN FN.kp bN (fun σ => L2N.passAt (L2N.takes_of rfl rfl rfl rfl) σ) (pa_cons (pv 1) (pa_cons (pe_callB (cr_sum rfl) (by rfl) N.sum (by decide +kernel) (pa_cons (pv 2) pa_nil)) pa_nil)))) pss_nev)), ?_⟩
      refine ⟨_, rfl, l, rfl, by omega, ?_⟩
      refine ⟨_, rfl, l, rfl, by omega, fun H1 pw S1 nw cw => ?_⟩
      refine ⟨_, rfl, _, rfl, pw, ahead l, rfl, cw.sq, _, ⟨y, _, rfl, rfl, ?_⟩, t.same S1, fun H' s' t' => q H' ((sameT S1).trans s') t'⟩
      rw [ahead_sum]
      exact hy.tabs t (sameT S1)
/-- number_of of no word, or of a word and no order of it -/
def cdNf (K : PySem.W.Frag) (CW CO : Addr) : List V → Hp → Addr → Prop := fun vs H D => ∃ x y, vs = [x, y] ∧ ((BadW H x ∧ D = CW) ∨ ∃ l : List Bool, x = .str (wd l) ∧ l.length ≤ 800 ∧ BadO K H l y ∧ D = CO)
theorem bad_nf {CW CO f fW fK : Addr} {fd fdW fdK : FuncData} (F : Fun K "number_of" "number_of" sNf f fd) (N : Nm mg)
    (FW : Fun K "check_word" "check_word" sCw fW fdW) (bW : Binds K fdW ["word"] []) (gW : mg "check_word" = some (.ref fW)) (BW : FnOk P w K mg base (L2N.CX P w) 1 fW fdW ["word"] (spBad Ts (cdW CW)))
    (FK : Fun K "check_order" "check_order" sCk fK fdK) (BK : FnOk P w K mg base (L2N.CX P w) 4 fK fdK ["word", "order"] (spBad Ts (cdK K CO))) (bK : Binds K fdK ["word", "order"] []) (gK : mg "check_order" = some (.ref fK)) :
    FnOk P w K mg base (L2N.CX P w) 5 f fd ["word", "order"] (spBad Ts (cdNf K CW CO)) := by
  have GW : FnOk P w K mg base CX0 1 fW fdW ["word"] spCw := ok_cw FW N
  refine okN F scNf (fun vs H Q E h => ?_) (fun cdv A outer s H vs Q E hr h => ?_)
  · obtain ⟨_, ⟨x, y, rfl, _⟩, _⟩ := h
    rfl
  · obtain ⟨_, ⟨x, y, rfl, hx⟩, t, q⟩ := h
    have hr1 := hr.mono (show 1 ≤ 4 by decide)
    rcases hx with ⟨hx, rfl⟩ | ⟨l, rfl, hl, hy, rfl⟩
    · exact ⟨_, pss_cons (ps_expr (pe_callS BW hr1 (by rfl) gW FW.kp bW (fun σ => L2N.passAt (L2N.takes_of rfl rfl rfl rfl) σ) (pa_cons (pv 0) pa_nil))) pss_nev, _, rfl, _, ⟨x, rfl, rfl, hx⟩, t, fun H' s' t' => q H' s' t'⟩
    · refine ⟨_, pss_cons (ps_expr (pe_call GW hr1 (by rfl) gW FW.kp bW .nil pass0 (pa_cons (pv 0) pa_nil)))
        (pss_cons (ps_expr (pe_callS BK hr (by rfl) gK FK.kp bK (fun σ => L2N.passAt (L2N.takes_of rfl rfl rfl rfl) σ) (pa_cons (pv 0) (pa_cons (pv 1) pa_nil)))) pss_nev), ?_⟩
      refine ⟨_, rfl, l, rfl, by omega, ?_⟩
      exact ⟨_, rfl, _, rfl, _, ⟨l, y, rfl, hl, rfl, hy⟩, t, fun H' s' t' => q H' s' t'⟩
end
end K5
end
-- part K5E
section
set_option Elab.async false
set_option linter.all false
set_option maxRecDepth 100000
set_option maxHeartbeats 4000000
namespace K5
open PySem PySem.Spec PyProof.Rows L2 RFI K1 ZG CwR K2 RFX
theorem scKi : FnScope ["_law_error", "_law_found"] ["_law_error"] (defScope sKi) := ⟨rfl, rfl, rfl, by decide +kernel, rfl, by decide +kernel, by decide +kernel⟩
theorem scWw : FnScope ["_law_door", "_law_word_here"] ["_law_door", "_law_word_here"] (defScope sWw) := ⟨rfl, rfl, rfl, by decide +kernel, rfl, by decide +kernel, by decide +kernel⟩
theorem scWr : FnScope ["_law_door", "_law_row"] ["_law_door", "_law_row"] (defScope sWr) := ⟨rfl, rfl, rfl, by decide +kernel, rfl, by decide +kernel, by decide +kernel⟩
theorem scTo : FnScope ["_law_ask", "_law_one", "_law_other", "_law_error"] ["_law_ask", "_law_one", "_law_other"] (defScope sTo) := ⟨rfl, rfl, rfl, by decide +kernel, rfl, by decide +kernel, by decide +kernel⟩
/-- the four classes of errors -/
structure Cs where
  w : Addr
  n : Addr
  o : Addr
  r : Addr
  e : Addr
/-- one of them, the j-th -/
structure Err1 (K : PySem.W.Frag) (c : Cs) (D : Addr) (j : Nat) : Prop where
  is : ExcC K D
  k0 : PySem.W.kitOne K (.ref D) (.ref c.w) = some (decide (j = 0))
  k1 : PySem.W.kitOne K (.ref D) (.ref c.n) = some (decide (j = 1))
  k2 : PySem.W.kitOne K (.ref D) (.ref c.o) = some (decide (j = 2))
  k3 : PySem.W.kitOne K (.ref D) (.ref c.r) = some (decide (j = 3))
  kv : PySem.W.kitOne K (.ref D) (.type "ValueError") = some true
def flags (j : Nat) : List Bool := [decide (j = 0), decide (j = 1), decide (j = 2), decide (j = 3), true]
theorem excC_sub {K K' : PySem.W.Frag} {D : Addr} (S : RFI.Sub K K') (c : ExcC K D) : ExcC K' D := ⟨S.find c.hg, S.find c.hk, S.sub c.hs, S.clsAny c.hd, S.find c.ha, S.special c.hn, S.takes c.ht, S.mro c.hm⟩
theorem Err1.sub {K K' : PySem.W.Frag} {c : Cs} {D : Addr} {j : Nat} (S : RFI.Sub K K') (e : Err1 K c D j) : Err1 K' c D j := ⟨excC_sub S e.is, S.kit e.k0, S.kit e.k1, S.kit e.k2, S.kit e.k3, S.kit e.kv⟩
section
variable {P : Program} {w : World} {K : PySem.W.Frag} {mg : Str → Option Value} {base : Heap} {Ts : List Addr}
/-- the names of the classes -/
structure NmE (mg : Str → Option Value) (c : Cs) : Prop where
  w : mg "BadWord" = some (.ref c.w)
  n : mg "BadNumber" = some (.ref c.n)
  o : mg "BadOrder" = some (.ref c.o)
  r : mg "BadRow" = some (.ref c.r)
  e : mg "RiseError" = some (.ref c.e)
  v : mg "ValueError" = none
/-- of which classes an error is -/
def spKi (c : Cs) (K : PySem.W.Frag) : Sp := fun vs H Q _ => ∃ (a D : Addr) (oe : Obj) (j : Nat), vs = [.ref a] ∧ K.lookup a = some oe ∧ Zc (.ref D) none oe ∧ (∃ vs, oe.data = .fields vs) ∧ Err1 K c D j ∧
  ∀ H' p, Same H H' → H p = none → H' p = some (.lst ((flags j).map V.bl)) → Q (.ref p) H'
theorem ok_ki {c : Cs} {f : Addr} {fd : FuncData} (F : Fun K "_law_kinds" "_law_kinds" sKi f fd) (N : Nm mg) (NE : NmE mg c) : L2H.FnH P w K mg base CX0 1 f fd ["_law_error"] (spKi c K) := by
  refine okH F scKi (fun vs H Q E h => ?_) (fun cdv A outer s H vs Q E pp hr h => ?_)
  · obtain ⟨a, D, oe, j, rfl, _⟩ := h
    rfl
  · obtain ⟨a, D, oe, j, rfl, lk, hz, hf, e1, q⟩ := h
    refine ⟨_, pss_cons (ps_set (i := 1) scKi.nd rfl (.inl rfl) (pe_lst
        (pa_cons (pe_callB call_isK (by rfl) N.isi boot_isinstance (pa_cons (pv 0) (pa_cons (pe_glob (v := .ref c.w) (by rfl) NE.w rfl) pa_nil)))
        (pa_cons (pe_callB call_isK (by rfl) N.isi boot_isinstance (pa_cons (pv 0) (pa_cons (pe_glob (v := .ref c.n) (by rfl) NE.n rfl) pa_nil)))
        (pa_cons (pe_callB call_isK (by rfl) N.isi boot_isinstance (pa_cons (pv 0) (pa_cons (pe_glob (v := .ref c.o) (by rfl) NE.o rfl) pa_nil))) pa_nil)))))
      (pss_one (ps_ret (pe_op op_catR (pv 1) (pe_lst
        (pa_cons (pe_callB call_isK (by rfl) N.isi boot_isinstance (pa_cons (pv 0) (pa_cons (pe_glob (v := .ref c.r) (by rfl) NE.r rfl) pa_nil)))
        (pa_cons (pe_callB call_isK (by rfl) N.isi boot_isinstance (pa_cons (pv 0) (pa_cons (pe_bltn (by rfl) NE.v (u := .type "ValueError") (v := .ty "ValueError") (by decide +kernel) rfl) pa_nil))) pa_nil)))))), ?_⟩
    refine ⟨_, rfl, ⟨a, D, oe, .ref c.w, .ref c.w, _, rfl, lk, hz, hf, e1.is, fun u z => z, e1.k0, ?_⟩⟩
    refine ⟨_, rfl, ⟨a, D, oe, .ref c.n, .ref c.n, _, rfl, lk, hz, hf, e1.is, fun u z => z, e1.k1, ?_⟩⟩
    refine ⟨_, rfl, ⟨a, D, oe, .ref c.o, .ref c.o, _, rfl, lk, hz, hf, e1.is, fun u z => z, e1.k2, ?_⟩⟩
    refine ⟨(show 3 ≤ sizeLine by decide), fun p1 n1 => ?_⟩
    refine ⟨_, rfl, _, rfl, ⟨a, D, oe, .ref c.r, .ref c.r, _, rfl, lk, hz, hf, e1.is, fun u z => z, e1.k3, ?_⟩⟩
    refine ⟨_, rfl, ⟨a, D, oe, .ty "ValueError", .type "ValueError", true, rfl, lk, hz, hf, e1.is, fun u z => z, e1.kv, ?_⟩⟩
    refine ⟨(show 2 ≤ sizeLine by decide), fun p2 n2 => ?_⟩
    have n12 : p1 ≠ p2 := ne_of_none upd_same n2
    refine ⟨p1, p2, [.bl (decide (j = 0)), .bl (decide (j = 1)), .bl (decide (j = 2))], [.bl (decide (j = 3)), .bl true], rfl, rfl, .inl (by rw [upd_ne n12, upd_same]), .inl upd_same, (show 5 ≤ sizeLine by decide), fun p3 n3 => ?_⟩
    refine q _ p3 (((same_upd n1).trans (same_upd n2)).trans (same_upd n3)) ?_ upd_same
    exact (same_upd n1).free ((same_upd n2).free n3)
/-- at the three doors that are handed words -/
def cdWw (C : Addr) : List V → Hp → Addr → Prop := fun vs H D => ∃ (d : Int) (x : V), vs = [.int d, x] ∧ BadW H x ∧ D = C
theorem bad_ww {CW CN CO f fC fO fN : Addr} {fd fdC fdO fdN : FuncData} (F : Fun K "_law_with_word" "_law_with_word" sWw f fd)
    (FC : Fun K "count" "count" sCo fC fdC) (bC : Binds K fdC ["word"] []) (gC : mg "count" = some (.ref fC)) (BC : FnOk P w K mg base (L2N.CX P w) 2 fC fdC ["word"] (spBad Ts (cdW CW)))
    (FO : Fun K "order_of" "order_of" sOf fO fdO) (bO : Binds K fdO ["word", "number"] []) (gO : mg "order_of" = some (.ref fO)) (BO : FnOk P w K mg base (L2N.CX P w) 4 fO fdO ["word", "number"] (spBad Ts (cdOf CW CN)))
    (FN : Fun K "number_of" "number_of" sNf fN fdN) (bN : Binds K fdN ["word", "order"] []) (gN : mg "number_of" = some (.ref fN)) (BN : FnOk P w K mg base (L2N.CX P w) 5 fN fdN ["word", "order"] (spBad Ts (cdNf K CW CO))) :
    FnOk P w K mg base (L2N.CX P w) 6 f fd ["_law_door", "_law_word_here"] (spBad Ts (cdWw CW)) := by
  refine okN F scWw (fun vs H Q E h => ?_) (fun cdv A outer s H vs Q E hr h => ?_)
  · obtain ⟨_, ⟨d, x, rfl, _⟩, _⟩ := h
    rfl
  · obtain ⟨_, ⟨d, x, rfl, hx, rfl⟩, t, q⟩ := h
    have hr2 := hr.mono (show 2 ≤ 5 by decide)
    have hr4 := hr.mono (show 4 ≤ 5 by decide)
    refine ⟨_, pss_one (ps_ret (pe_ifExp (pt_cmpR op_eq (pv 0) pe_int (nomark _)) (pe_callS BC hr2 (by rfl) gC FC.kp bC (fun σ => L2N.passAt (L2N.takes_of rfl rfl rfl rfl) σ) (pa_cons (pv 1) pa_nil))
      (pe_ifExp (pt_cmpR op_eq (pv 0) pe_int (nomark _)) (pe_callS BO hr4 (by rfl) gO FO.kp bO (fun σ => L2N.passAt (L2N.takes_of rfl rfl rfl rfl) σ) (pa_cons (pv 1) (pa_cons (pe_un un_neg pe_int) pa_nil)))
        (pe_callS BN hr (by rfl) gN FN.kp bN (fun σ => L2N.passAt (L2N.takes_of rfl rfl rfl rfl) σ) (pa_cons (pv 1) (pa_cons pe_non pa_nil)))))), ?_⟩
    refine ⟨_, rfl, rfl, _, rfl, ite2 (fun _ => ?_) fun _ => ⟨_, rfl, rfl, _, rfl, ite2 (fun _ => ?_) fun _ => ?_⟩⟩
    · exact ⟨_, rfl, _, ⟨x, rfl, rfl, hx⟩, t, fun H' s' t' => q H' s' t'⟩
    · exact ⟨_, rfl, _, rfl, _, ⟨x, _, rfl, .inl ⟨hx, rfl⟩⟩, t, fun H' s' t' => q H' s' t'⟩
    · exact ⟨_, rfl, _, ⟨x, _, rfl, .inl ⟨hx, rfl⟩⟩, t, fun H' s' t' => q H' s' t'⟩
/-- at the two doors that are handed rows -/
def cdWr (K : PySem.W.Frag) (C : Addr) : List V → Hp → Addr → Prop := fun vs H D => ∃ (d : Int) (x : V), vs = [.int d, x] ∧ ((d = 0 ∧ BadL K H x) ∨ (d ≠ 0 ∧ NoW K H x)) ∧ D = C
theorem bad_wr {CR f fL fO : Addr} {fd fdL fdO : FuncData} (F : Fun K "_law_with_row" "_law_with_row" sWr f fd)
    (FL : Fun K "longest" "longest" sLo fL fdL) (bL : Binds K fdL ["row"] []) (gL : mg "longest" = some (.ref fL)) (BL : FnOk P w K mg base (L2N.CX P w) 3 fL fdL ["row"] (spBad Ts (cdR K CR)))
    (FO : Fun K "word_of" "word_of" sWo fO fdO) (bO : Binds K fdO ["row"] []) (gO : mg "word_of" = some (.ref fO)) (BO : FnOk P w K mg base (L2N.CX P w) 3 fO fdO ["row"] (spBad Ts (cdO K CR))) :
    FnOk P w K mg base (L2N.CX P w) 4 f fd ["_law_door", "_law_row"] (spBad Ts (cdWr K CR)) := by
  refine okN F scWr (fun vs H Q E h => ?_) (fun cdv A outer s H vs Q E hr h => ?_)
  · obtain ⟨_, ⟨d, x, rfl, _⟩, _⟩ := h
    rfl
  · obtain ⟨_, ⟨d, x, rfl, hx, rfl⟩, t, q⟩ := h
    refine ⟨_, pss_one (ps_ret (pe_ifExp (pt_cmpR op_eq (pv 0) pe_int (nomark _)) (pe_callS BL hr (by rfl) gL FL.kp bL (fun σ => L2N.passAt (L2N.takes_of rfl rfl rfl rfl) σ) (pa_cons (pv 1) pa_nil))
        (pe_callS BO hr (by rfl) gO FO.kp bO (fun σ => L2N.passAt (L2N.takes_of rfl rfl rfl rfl) σ) (pa_cons (pv 1) pa_nil)))), ?_⟩
    rcases hx with ⟨rfl, hx⟩ | ⟨hd, hx⟩
    · refine ⟨_, rfl, rfl, _, rfl, ite2 (fun _ => ?_) fun e => absurd (decide_eq_true rfl) e⟩
      exact ⟨_, rfl, _, ⟨x, rfl, rfl, hx⟩, t, fun H' s' t' => q H' s' t'⟩
    · refine ⟨_, rfl, rfl, _, rfl, ite2 (fun e => absurd (V.int.inj (of_decide_eq_true e)) hd) fun _ => ?_⟩
      exact ⟨_, rfl, _, ⟨x, rfl, rfl, hx⟩, t, fun H' s' t' => q H' s' t'⟩
/-- what is told of a refusal -/
def spTo (K : PySem.W.Frag) (c : Cs) (Ts : List Addr) (S : Addr → (List V → Hp → Addr → Prop) → Prop) : Sp := fun vs H Q _ => ∃ f cd x y D j, vs = [.ref f, x, y] ∧ S f cd ∧ cd [x, y] H D ∧ Err1 K c D j ∧ PySem.W.exmOne K (.ref D) (.ref c.e) = some true ∧ TabsG H Ts ∧
  ∀ H' p, SameT Ts H H' → TabsG H' Ts → H p = none → H' p = some (.lst ((flags j).map V.bl)) → Q (.ref p) H'
theorem ok_to {c : Cs} {k : Nat} {S : Addr → (List V → Hp → Addr → Prop) → Prop} {f fK : Addr} {fd fdK : FuncData} (F : Fun K "_law_told" "_law_told" sTo f fd) (N : Nm mg) (NE : NmE mg c)
    (FK : Fun K "_law_kinds" "_law_kinds" sKi fK fdK) (bK : ∀ K', RFI.Sub K K' → Binds K' fdK ["_law_error"] []) (gK : mg "_law_kinds" = some (.ref fK)) (hS : ∀ g cd, S g cd → HeldX P w K mg base k g (spBad Ts cd)) (hk : 1 ≤ k) :
    FnOk P w K mg base CX0 (k + 1) f fd ["_law_ask", "_law_one", "_law_other"] (spTo K c Ts S) := by
  refine F.ok scTo (fun vs H Q E h => ?_) (fun cdv A outer s H vs Q E hr h => ?_)
  · obtain ⟨f, cd, x, y, D, j, rfl, _⟩ := h
    rfl
  · obtain ⟨g, cd, x, y, D, j, rfl, hg, hcd, e1, em, t, q⟩ := h
    have hr1 := hr.mono hk
    refine ⟨_, pss_cons (L2N.ps_try_as (i := 3) (tb := fun W => tDrop (tCallX 0 (fun g sp => ∃ cd, S g cd ∧ sp = spBad Ts cd) (WE W) (tCons (tVar 1) (tCons (tVar 2) tNil)))) (ts := fun a cls d => tRet (tKeep K 3 (spKi c) a cls d)) (Wout := fun _ _ _ _ => False) rfl rfl scTo.nd rfl rfl ⟨rfl, by decide, .inl NE.e⟩ takesN
        (fun W pn xe tk _ => pss_one (ps_expr (pe_callX (fun g sp ⟨cd, h1, h2⟩ => by rw [h2]; exact hS g cd h1) hr rfl (.inl rfl) (fun σ => L2N.passAt tk σ) (pa_cons (pv 1) (pa_cons (pv 2) pa_nil)))))
        (fun a oe cls d pn hz hf => pss_one (ps_ret (pe_keep hz hf (fun K' G S' => ok_ki (S'.fun_ FK) N NE) hr1 (by rfl) gK FK.kp bK rfl (.inl rfl)))))
      pss_nev, ?_⟩
    refine ⟨g, _, rfl, ⟨cd, hg, rfl⟩, _, rfl, _, rfl, D, hcd, t, fun H1 s1 t1 => ?_⟩
    refine ⟨true, em, fun _ a na => ?_, fun z => nomatch z⟩
    refine ⟨rfl, fun oe K' hz hf S' lk => ⟨a, D, oe, j, rfl, lk, hz, hf, e1.sub S', fun H2 p s2 np hp => ?_⟩⟩
    exact q H2 p (s1.trans (sameT s2)) (t1.same s2) (s1.free t1 np) hp
end
end K5
end
-- part K5F
section
set_option Elab.async false
set_option linter.all false
set_option maxRecDepth 100000
set_option maxHeartbeats 4000000
namespace K5
open PySem PySem.Spec PyProof.Rows L2 RFI K1 ZG CwR K2 RFX
abbrev nAl : List Str := ["_law_ask", "_law_doors", "_law_things", "_law_due", "_law_door", "_law_thing"]
theorem scAl : FnScope nAl ["_law_ask", "_law_doors", "_law_things", "_law_due"] (defScope sAl) := ⟨rfl, rfl, rfl, by decide +kernel, rfl, by decide +kernel, by decide +kernel⟩
/-! ### flags compared -/
theorem dp_flags {H : Hp} {K : PySem.W.Frag} {a : Addr} {j : Nat} (h : SqL K H a ((flags j).map V.bl)) : Dp K H (.ref a) (.list ((flags j).map PyData.bool)) :=
  .lst h (.cons (.bl _) (.cons (.bl _) (.cons (.bl _) (.cons (.bl _) (.cons (.bl _) .nil)))))
theorem sh_flags (j : Nat) : PySem.SeqAt.shaped (.list ((flags j).map PyData.bool)) = true := by
  have h : ∀ a b c d : Bool, PySem.SeqAt.shaped (.list [.bool a, .bool b, .bool c, .bool d, .bool true]) = true := by decide +kernel
  exact h _ _ _ _
theorem eq_flags (j : Nat) : PyData.eqv (.list ((flags j).map PyData.bool)) (.list ((flags j).map PyData.bool)) = true := PySem.SeqAt.eqv_refl _ (PySem.SeqAt.canLay_of_shaped (sh_flags j))
section
variable {P : Program} {w : World} {K : PySem.W.Frag} {mg : Str → Option Value} {base : Heap} {Ts : List Addr}
/-- all of some are refused alike at some doors -/
def spAl (K : PySem.W.Frag) (c : Cs) (Ts : List Addr) (S : Addr → (List V → Hp → Addr → Prop) → Prop) : Sp := fun vs H Q _ => ∃ (f dr tg du : Addr) (ds : List Int) (xs : List V) (cd : List V → Hp → Addr → Prop) (D : Addr) (j : Nat), vs = [.ref f, .ref dr, .ref tg, .ref du] ∧ S f cd ∧
  SqL K H dr (ds.map V.int) ∧ SqL K H tg xs ∧ SqL K H du ((flags j).map V.bl) ∧ xs.length ≤ 1000 ∧ Err1 K c D j ∧ PySem.W.exmOne K (.ref D) (.ref c.e) = some true ∧ TabsG H Ts ∧
  (∀ d ∈ ds, ∀ x ∈ xs, ∀ H', SameT Ts H H' → TabsG H' Ts → cd [.int d, x] H' D) ∧ ∀ H', SameT Ts H H' → TabsG H' Ts → Q (.bl true) H'
theorem ok_al {c : Cs} {k : Nat} {S : Addr → (List V → Hp → Addr → Prop) → Prop} {f fT : Addr} {fd fdT : FuncData} (F : Fun K "_law_all" "_law_all" sAl f fd) (N : Nm mg)
    (FT : Fun K "_law_told" "_law_told" sTo fT fdT) (bT : Binds K fdT ["_law_ask", "_law_one", "_law_other"] []) (gT : mg "_law_told" = some (.ref fT)) (GT : FnOk P w K mg base CX0 k fT fdT ["_law_ask", "_law_one", "_law_other"] (spTo K c Ts S)) :
    FnOk P w K mg base CX0 (k + 1) f fd ["_law_ask", "_law_doors", "_law_things", "_law_due"] (spAl K c Ts S) := by
  refine F.ok scAl (fun vs H Q E h => ?_) (fun cdv A outer s H vs Q E hr h => ?_)
  · obtain ⟨f, dr, tg, du, ds, xs, cd, D, j, rfl, _⟩ := h
    rfl
  · obtain ⟨g, dr, tg, du, ds, xs, cd, D, j, rfl, hg, hds, hxs, hdu, hxl, e1, em, t, hcd, q⟩ := h
    have nd := scAl.nd
    refine ⟨_, pss_cons (ps_for PassesOwn.never rfl (pi_list (pv 1)) (pg_name (i := 4) nd rfl (.inr rfl))
        (pss_one (ps_if (pt_not (pt_val (pe_callB (cr_all rfl) (by rfl) N.all (by decide +kernel) (pa_cons (pe_lc (own := [("_law_thing", 5)]) (g := gName 5) rfl nd (pi_list (pv 2)) (blkOk_by (N := nAl) (sc := defScope sAl) (by decide +kernel)) (fun _ _ _ _ _ => pg_name (i := 5) nd rfl (Or.inl rfl)) (fun _ _ _ _ _ => pts_nil)
          (fun _ _ _ _ _ => pe_cmpR (r := rEqD K) (op_eqD hr.units) (pe_call GT hr (by rfl) gT FT.kp bT .nil pass0 (pa_cons (pv 0) (pa_cons (pv 4) (pa_cons (pv 5) pa_nil)))) (pv 3) (nomark _))) pa_nil)))) (pss_one ps_never) pss_nil)))
      (pss_one (ps_ret pe_bl)), ?_⟩
    have hsm : (2000 : Nat) ≤ sizeLine := by decide
    refine ⟨_, rfl, dr, rfl, ⟨_, hds⟩, for_list (xs := ds.map V.int) (fun i σ H3 => ∃ v4 v5, σ = [some (.ref g), some (.ref dr), some (.ref tg), some (.ref du), v4, v5] ∧ SameT Ts H H3 ∧ TabsG H3 Ts) ⟨none, none, rfl, .refl, t⟩ (fun i σ H3 _ hW => ?_) (fun i x σ H3 hx hW => ?_) (fun σ H3 hW => ?_)⟩
    · obtain ⟨_, _, _, s3, t3⟩ := hW
      exact sq_tabs t s3 hds
    · obtain ⟨v4, v5, rfl, s3, t3⟩ := hW
      obtain ⟨d, ed, rfl⟩ := map_get hx
      refine ⟨_, rfl, tg, rfl, ⟨_, sq_tabs t s3 hxs⟩, fun D1 nD1 => ?_⟩
      refine lc_list (xs := xs) (fun i H5 => SameT Ts H3 H5 ∧ TabsG H5 Ts ∧ H5 D1 = some (.lst ((List.replicate i true).map V.bl))) ⟨sameT (same_upd nD1), t3.same (same_upd nD1), by rw [upd_same]; rfl⟩ (fun i H5 _ hW => sq_tabs t (s3.trans hW.1) hxs) (fun i x H5 hx hW => ?_) (fun H5 hW => ?_)
      · obtain ⟨s5, t5, hD⟩ := hW
        have hil : i < xs.length := (List.getElem?_eq_some_iff.mp hx).1
        have S5 := s3.trans s5
        refine ⟨rfl, _, rfl, _, rfl, _, rfl, g, cd, .int d, x, D, j, rfl, hg, hcd d (List.mem_of_getElem? ed) x (List.mem_of_getElem? hx) H5 S5 t5, e1, em, t5, fun H6 p s6 t6 np hp => ?_⟩
        refine ⟨_, rfl, _, _, dp_flags (.inl (.inl hp)), dp_flags (sq_tabs t (S5.trans s6) hdu), sh_flags j, sh_flags j, ?_⟩
        rw [eq_flags]
        have hD6 := t5.keep s6 hD fun _ z => by cases z
        refine ⟨_, hD6, ?_, ?_, fun T hT => ?_, ?_⟩
        · rw [List.length_map, List.length_replicate]
          exact Nat.lt_of_lt_of_le (show i < 2000 by omega) hsm
        · intro b2 x2 hb e2
          rw [upd_ne (ne_of_none e2 nD1)]
          exact s6 b2 x2 hb (s5 b2 x2 hb e2)
        · obtain ⟨ps, eP, hp2⟩ := t6 T hT
          exact ⟨ps, by rw [upd_ne (ne_of eP hD6 (fun z => by cases z))]; exact eP, hp2⟩
        · rw [upd_same, List.replicate_succ', List.map_append]
          rfl
      · obtain ⟨s5, t5, hD⟩ := hW
        refine ⟨D1, _, rfl, .inl (.inl hD), ?_⟩
        rw [show (List.replicate xs.length true).all id = true by simp]
        exact ⟨_, rfl, iteF ⟨_, _, rfl, s3.trans s5, t5⟩⟩
    · obtain ⟨v4, v5, rfl, s3, t3⟩ := hW
      exact q H3 s3 t3
end
end K5
end
-- part K5G
section
set_option Elab.async false
set_option linter.all false
set_option maxRecDepth 100000
set_option maxHeartbeats 8000000
namespace K5
open PySem PySem.Spec PyProof.Rows L2 RFI K1 ZG CwR K2 RFX
abbrev nOg : List Str := ["_law_word_here", "_law_order", "_law_due", "_law_far_here", "_law_many", "_law_kept", "_law_wrong", "_law_at", "_law_one", "_law_thing"]
theorem scOg : FnScope nOg ["_law_word_here", "_law_order", "_law_due", "_law_far_here"] (defScope sOg) := ⟨rfl, rfl, rfl, by decide +kernel, rfl, by decide +kernel, by decide +kernel⟩
/-- all but what stands at q -/
def wo (H : Hp) (q : Addr) : Hp := fun b => if b = q then none else H b
theorem wo_upd {H : Hp} {q : Addr} {o : HO} : wo (upd H q o) q = wo H q := funext fun b => by
  unfold wo
  by_cases h : b = q
  · rw [if_pos h, if_pos h]
  · rw [if_neg h, if_neg h, upd_ne h]
theorem wo_same {H : Hp} {q : Addr} : Same (wo H q) H := fun b o e => by
  unfold wo at e
  by_cases h : b = q
  · rw [if_pos h] at e; cases e
  · rw [if_neg h] at e; exact e
theorem wo_of {H H' : Hp} {q : Addr} (n : H q = none) (s : Same H H') : Same H (wo H' q) := fun b o e => by
  unfold wo
  rw [if_neg (ne_of_none e n)]
  exact s b o e
theorem wo_at {H : Hp} {q b : Addr} (h : b ≠ q) : wo H q b = H b := if_neg h
theorem wo_wo {H H' : Hp} {q : Addr} (s : Same H H') : Same (wo H q) (wo H' q) := fun b o e => by
  unfold wo at e ⊢
  by_cases h : b = q
  · rw [if_pos h] at e; cases e
  · rw [if_neg h] at e ⊢; exact s b o e
/-- a list of what is no order, or has another word -/
def WrongAt (K : PySem.W.Frag) (l : List Bool) (H : Hp) (q : Addr) (n : Nat) : Prop := ∃ xs, H q = some (.lst xs) ∧ xs.length ≤ n ∧ ∀ x ∈ xs, BadO K (wo H q) l x
theorem WrongAt.new {K : PySem.W.Frag} {l : List Bool} {H : Hp} {q : Addr} {xs : List V} {n : Nat} (nq : H q = none) (hn : xs.length ≤ n) (h : ∀ x ∈ xs, BadO K H l x) : WrongAt K l (upd H q (.lst xs)) q n :=
  ⟨xs, upd_same, hn, fun x hx => (h x hx).same (wo_of nq (same_upd nq))⟩
section
variable {P : Program} {w : World} {K : PySem.W.Frag} {mg : Str → Option Value} {base : Heap} {Ts : List Addr}
def spOg (K : PySem.W.Frag) (c : Cs) (Ts : List Addr) : Sp := fun vs H Q _ => ∃ (l : List Bool) (p : Addr) (o : Obj) (fs : List Int) (du : Addr) (far : Int), vs = [.str (wd l), .ref p, .ref du, .int far] ∧ l.length ≤ 100 ∧ H p = some (.frz o (.lst (fs.map V.int))) ∧ ClO o ∧ IsOrder l fs ∧ 0 ≤ far ∧
  SqL K H du ((flags 2).map V.bl) ∧ TabsG H Ts ∧ ∀ H', SameT Ts H H' → TabsG H' Ts → Q (.bl true) H'
theorem ok_og {c : Cs} {k : Nat} {S : Addr → (List V → Hp → Addr → Prop) → Prop} {f fT fN : Addr} {fd fdT : FuncData} (F : Fun K "_law_orders_right" "_law_orders_right" sOg f fd) (N : Nm mg) (Zt : mg "tuple" = none)
    (FT : Fun K "_law_told" "_law_told" sTo fT fdT) (bT : Binds K fdT ["_law_ask", "_law_one", "_law_other"] []) (gT : mg "_law_told" = some (.ref fT)) (GT : FnOk P w K mg base CX0 k fT fdT ["_law_ask", "_law_one", "_law_other"] (spTo K c Ts S))
    (gN : mg "number_of" = some (.ref fN)) (hN : S fN (cdNf K c.w c.o)) (eO : Err1 K c c.o 2) (em : PySem.W.exmOne K (.ref c.o) (.ref c.e) = some true) :
    FnOk P w K mg base CX0 (k + 1) f fd ["_law_word_here", "_law_order", "_law_due", "_law_far_here"] (spOg K c Ts) := by
  refine F.ok scOg (fun vs H Q E h => ?_) (fun cdv A outer s H vs Q E hr h => ?_)
  · obtain ⟨l, p, o, fs, du, far, rfl, _⟩ := h
    rfl
  · obtain ⟨l, p, o, fs, du, far, rfl, hl, hp, co, ho, hf0, hdu, t, q⟩ := h
    have nd := scOg.nd
    refine ⟨_, pss_mid (ps_par (i := 4) (j := 5) rfl nd rfl rfl (by decide) rfl rfl (pa_cons (pe_callB call_len_str (by rfl) N.len PySem.boot_len (pa_cons (pv 0) pa_nil)) (pa_cons (pe_callTy call_list_of (by rfl) N.list (by decide +kernel) (pa_cons (pv 1) pa_nil)) pa_nil)) (by rfl))
      (pss_mid (ps_set (i := 6) nd rfl (.inl rfl) (pe_lst (pa_cons pe_non (pa_cons (pe_tupleOf (by rfl) Zt (pv 1)) (pa_cons pe_str (pa_cons pe_dnewK (pa_cons pe_int (pa_cons (pe_op op_catR (pv 1) (pe_lst (pa_cons (pe_op op_add (pv 4) pe_int) pa_nil)))
        (pa_cons (pe_slice sl_list (pv 1) (po_some pe_int) po_none) (pa_cons (pe_op op_rep (pe_lst (pa_cons pe_non pa_nil)) (pe_op op_add (pv 4) pe_int)) pa_nil))))))))))
      (pss_mid (ps_set (i := 6) nd rfl (.inl rfl) (pe_op op_catR (pv 6) (pe_lst (pa_cons (pe_op op_catR (pe_slice sl_list (pv 1) po_none (po_some (pe_un un_neg pe_int))) (pe_lst (pa_cons (pe_un un_neg pe_int) pa_nil)))
        (pa_cons (pe_op op_catR (pe_slice sl_list (pv 1) po_none (po_some (pe_un un_neg pe_int))) (pe_lst (pa_cons pe_str pa_nil)))
        (pa_cons (pe_op op_catR (pe_slice sl_list (pv 1) po_none (po_some (pe_un un_neg pe_int))) (pe_lst (pa_cons (pe_op op_add (pe_op op_add (pv 4) pe_int) (pv 3)) pa_nil)))
        (pa_cons (pe_op op_catR (pe_lst (pa_cons (pe_ix ix_list (pv 1) pe_int (fun _ _ => rfl)) pa_nil)) (pv 1)) pa_nil)))))))
      (pss_mid (ps_if (pt_cmpR op_gt (pv 4) pe_int (nomark _))
        (pss_cons (ps_set (i := 6) nd rfl (.inl rfl) (pe_op op_catR (pv 6) (pe_lst (pa_cons (pe_op op_catR (pe_slice sl_list (pv 1) po_none (po_some (pe_un un_neg pe_int))) (pe_slice sl_list (pv 1) po_none (po_some pe_int)))
          (pa_cons (pe_op op_catC (pe_op op_catC (pe_slice sl_listC (pv 1) (po_some pe_int) (po_some pe_int)) (pe_slice sl_listC (pv 1) po_none (po_some pe_int))) (pe_slice sl_listC (pv 1) (po_some pe_int) po_none))
          (pa_cons (pe_op op_catR (pe_slice sl_list (pv 1) (po_some pe_int) po_none) (pe_slice sl_list (pv 1) (po_some pe_int) (po_some pe_int))) pa_nil))))))
        (pss_one (ps_expr (pe_bm PySem.F.plainAttrs_list PySem.F.slot_list_append PySem.F.type_list_append mt_append (pv 6) (pa_cons (pe_lc (own := [("_law_one", 8)]) (g := gName 8) rfl nd (pi_list (pv 1)) (blkOk_by (N := nOg) (sc := defScope sOg) (by decide +kernel)) (fun _ _ _ _ _ => pg_name (i := 8) nd rfl (Or.inl rfl)) (fun _ _ _ _ _ => pts_nil)
          (fun _ _ _ _ _ => pe_ifExp (pt_cmpR op_eq (pv 8) pe_int (nomark _)) pe_bl (pv 8))) pa_nil)))))
        (pss_one (ps_set (i := 6) nd rfl (.inl rfl) (pe_op op_catR (pv 6) (pe_lst (pa_cons (pe_lst (pa_cons pe_bl pa_nil)) (pa_cons (pe_lst (pa_cons pe_int pa_nil)) pa_nil)))))))
      (pss_mid (ps_for PassesOwn.never rfl (pi_range3 (by rfl) N.range (pa_cons pe_int (pa_cons (pv 4) (pa_cons (pe_op op_add pe_int (pe_op op_fdiv (pv 4) pe_int)) pa_nil)))) (pg_name (i := 7) nd rfl (.inl rfl))
        (pss_one (ps_expr (pe_bm PySem.F.plainAttrs_list PySem.F.slot_list_append PySem.F.type_list_append mt_append (pv 6) (pa_cons
          (pe_op op_catR (pe_op op_catR (pe_slice sl_list (pv 1) po_none (po_some (pv 7))) (pe_lst (pa_cons (pe_ix ix_tup (pe_tup (pa_cons pe_non (pa_cons pe_str (pa_cons (pe_op op_add (pv 4) pe_int) (pa_cons (pe_op op_sub (pe_un un_neg pe_int) (pv 3)) pa_nil))))) (pe_op op_mod (pv 7) pe_int) (fun _ _ => rfl)) pa_nil)))
            (pe_slice sl_list (pv 1) (po_some (pe_op op_add (pv 7) pe_int)) po_none)) pa_nil)))))
      (pss_mid (ps_if (pt_not (pt_val (pe_callB (cr_all rfl) (by rfl) N.all (by decide +kernel) (pa_cons (pe_lc (own := [("_law_thing", 9)]) (g := gName 9) rfl nd (pi_list (pv 6)) (blkOk_by (N := nOg) (sc := defScope sOg) (by decide +kernel)) (fun _ _ _ _ _ => pg_name (i := 9) nd rfl (Or.inl rfl)) (fun _ _ _ _ _ => pts_nil)
          (fun _ _ _ _ _ => pe_cmpR (r := rEqD K) (op_eqD hr.units) (pe_call GT hr (by rfl) gT FT.kp bT .nil pass0 (pa_cons (pe_glob (v := .ref fN) (by rfl) gN rfl) (pa_cons (pv 0) (pa_cons (pv 9) pa_nil)))) (pv 2) (nomark _))) pa_nil)))) (pss_one ps_never) pss_nil)
      (pss_one (ps_ret (pe_and (pe_cmpR (op_eqD hr.units) (pe_call GT hr (by rfl) gT FT.kp bT .nil pass0 (pa_cons (pe_glob (v := .ref fN) (by rfl) gN rfl) (pa_cons (pe_op op_add_str (pv 0) pe_str) (pa_cons (pv 1) pa_nil)))) (pv 2) (nomark _))
        (pe_one (pe_cmpR (op_eqD hr.units) (pv 1) (pv 5) (nomark _))))))))))), ?_⟩
    have hsm : (2000 : Nat) ≤ sizeLine := by decide
    have hfl : fs.length = l.length + 1 := by rw [ho.1.length_eq, upto_len]
    have hfm : ∀ x ∈ fs, 0 ≤ x ∧ x < ((l.length + 1 : Nat) : Int) := fun x hx => mem_upto.mp (ho.1.mem_iff.mp hx)
    -- how many, and the order kept
    refine ⟨fun σ' H' => ∃ k0, σ' = [some (.str (wd l)), some (.ref p), some (.ref du), some (.int far), some (.int ((wd l).length : Int)), some (.ref k0), none, none, none, none] ∧ Same H H' ∧ H' k0 = some (.lst (fs.map V.int)),
      ⟨_, rfl, _, rfl, by rw [wd_len]; exact Nat.le_trans (show l.length ≤ 2000 by omega) hsm, _, rfl, p, _, rfl, .inl (.inl (.inr ⟨o, hp⟩)), fun k0 nk => ⟨_, _, rfl, k0, rfl, same_upd nk, upd_same⟩⟩, fun σ1 H1 hM => ?_⟩
    obtain ⟨k0, rfl, S1, hk0⟩ := hM
    rw [wd_len]
    -- the first of them
    refine ⟨fun σ' H' => ∃ q v7 v8 v9, σ' = [some (.str (wd l)), some (.ref p), some (.ref du), some (.int far), some (.int (l.length : Int)), some (.ref k0), some (.ref q), v7, v8, v9] ∧ Same H1 H' ∧ H1 q = none ∧ WrongAt K l H' q 8, ?_, fun σ2 H2 hM => ?_⟩
    · have hp1 := S1 _ _ hp
      have hlen : ∀ ns : List Int, ns.length ≤ l.length + 2 → ns.length ≤ 900 := fun ns h => by omega
      -- tuple(order), {}, order + [many + 1], order[1:], [None] * (many + 1)
      refine ⟨_, rfl, .inl ⟨p, _, rfl, .inl (.inr ⟨o, hp1⟩), fun q1 n1 => ?_⟩⟩
      have sc : Same H1 H1 := same_refl
      have u1 := same_upd (o := .tup (fs.map V.int)) n1
      have e1 : upd H1 q1 (.tup (fs.map V.int)) q1 = some (.tup (fs.map V.int)) := upd_same
      generalize upd H1 q1 (.tup (fs.map V.int)) = H2 at u1 e1 ⊢
      replace hp1 := u1 _ _ hp1
      replace sc := Same.trans sc u1
      have b1 : BadO K H2 l (.ref q1) := badO_ty (n := "tuple") (by decide) (.tup e1)
      intro q2 n2
      have u2 := same_upd (o := .dK []) n2
      have e2 : upd H2 q2 (.dK []) q2 = some (.dK []) := upd_same
      generalize upd H2 q2 (.dK []) = H3 at u2 e2 ⊢
      replace hp1 := u2 _ _ hp1
      replace sc := Same.trans sc u2
      replace b1 := BadO.same b1 u2
      have b2 : BadO K H3 l (.ref q2) := badO_ty (n := "dict") (by decide) (.dK e2)
      refine ⟨_, rfl, _, rfl, _, _, rfl, rfl, (show 1 ≤ sizeLine by decide), fun q3 n3 => ?_⟩
      have u3 := same_upd (o := .lst [.int ((l.length : Int) + 1)]) n3
      have e3 : upd H3 q3 (.lst [.int ((l.length : Int) + 1)]) q3 = some (.lst [.int ((l.length : Int) + 1)]) := upd_same
      generalize upd H3 q3 (.lst [.int ((l.length : Int) + 1)]) = H4 at u3 e3 ⊢
      replace hp1 := u3 _ _ hp1
      replace sc := Same.trans sc u3
      replace b1 := BadO.same b1 u3
      replace b2 := BadO.same b2 u3
      refine ⟨p, q3, _, _, rfl, rfl, .inr ⟨o, hp1⟩, .inl e3, ?_, fun q4 n4 => ?_⟩
      · rw [List.length_map]
        exact Nat.le_trans (show fs.length + 1 ≤ 2000 by omega) hsm
      have u4 := same_upd (o := .lst ((fs.map V.int) ++ [.int ((l.length : Int) + 1)])) n4
      have e4 : upd H4 q4 (.lst ((fs.map V.int) ++ [.int ((l.length : Int) + 1)])) q4 = some (.lst ((fs.map V.int) ++ [.int ((l.length : Int) + 1)])) := upd_same
      generalize upd H4 q4 (.lst ((fs.map V.int) ++ [.int ((l.length : Int) + 1)])) = H5 at u4 e4 ⊢
      replace hp1 := u4 _ _ hp1
      replace sc := Same.trans sc u4
      replace b1 := BadO.same b1 u4
      replace b2 := BadO.same b2 u4
      have b3 : BadO K H5 l (.ref q4) := badO_np (ns := fs ++ [(l.length : Int) + 1]) (.inl (.inl (by rw [e4, List.map_append]; rfl))) (by rw [List.length_append]; show fs.length + 1 ≤ 900; omega) (np_len (by rw [List.length_append, hfl]; show l.length + 1 + 1 ≠ _; omega))
      refine ⟨_, rfl, _, rfl, p, _, rfl, .inl (.inr ⟨o, hp1⟩), fun q5 n5 => ?_⟩
      rw [cut_rest, ← List.map_drop] at *
      have u5 := same_upd (o := .lst ((fs.drop 1).map V.int)) n5
      have e5 : upd H5 q5 (.lst ((fs.drop 1).map V.int)) q5 = some (.lst ((fs.drop 1).map V.int)) := upd_same
      generalize upd H5 q5 (.lst ((fs.drop 1).map V.int)) = H6 at u5 e5 ⊢
      replace hp1 := u5 _ _ hp1
      replace sc := Same.trans sc u5
      replace b1 := BadO.same b1 u5
      replace b2 := BadO.same b2 u5
      replace b3 := BadO.same b3 u5
      have b4 : BadO K H6 l (.ref q5) := badO_np (ns := fs.drop 1) (.inl (.inl e5)) (by rw [List.length_drop]; omega) (np_len (by rw [List.length_drop]; omega))
      refine ⟨(show 1 ≤ sizeLine by decide), fun q6 n6 => ?_⟩
      have u6 := same_upd (o := .lst [.non]) n6
      have e6 : upd H6 q6 (.lst [.non]) q6 = some (.lst [.non]) := upd_same
      generalize upd H6 q6 (.lst [.non]) = H7 at u6 e6 ⊢
      replace hp1 := u6 _ _ hp1
      replace sc := Same.trans sc u6
      replace b1 := BadO.same b1 u6
      replace b2 := BadO.same b2 u6
      replace b3 := BadO.same b3 u6
      replace b4 := BadO.same b4 u6
      refine ⟨_, rfl, _, _, rfl, rfl, q6, _, _, rfl, rfl, e6, by omega, by omega, ?_, fun q7 n7 => ?_⟩
      · exact Nat.le_trans (show 1 * ((l.length : Int) + 1).toNat ≤ 2000 by omega) hsm
      rw [show ((l.length : Int) + 1).toNat = l.length + 1 by omega] at *
      have u7 := same_upd (o := .lst (List.replicate (l.length + 1) [V.non]).flatten) n7
      have e7 : upd H7 q7 (.lst (List.replicate (l.length + 1) [V.non]).flatten) q7 = some (.lst (List.replicate (l.length + 1) [V.non]).flatten) := upd_same
      generalize upd H7 q7 (.lst (List.replicate (l.length + 1) [V.non]).flatten) = H8 at u7 e7 ⊢
      replace hp1 := u7 _ _ hp1
      replace sc := Same.trans sc u7
      replace b1 := BadO.same b1 u7
      replace b2 := BadO.same b2 u7
      replace b3 := BadO.same b3 u7
      replace b4 := BadO.same b4 u7
      have b5 : BadO K H8 l (.ref q7) := .inl (.inr ⟨q7, _, rfl, .inl (.inl e7), fun y hy => ?_, .non, ?_, ⟨"NoneType", by decide, .non⟩⟩)
      rotate_left
      · obtain ⟨r, hr1, hr2⟩ := List.mem_flatten.mp hy
        rw [(List.mem_replicate.mp hr1).2, List.mem_singleton] at hr2
        rw [hr2]
        exact ⟨"NoneType", by decide, .non⟩
      · rw [List.replicate_succ, List.flatten_cons]
        exact List.mem_cons_self
      refine ⟨(show 8 ≤ sizeLine by decide), fun q8 n8 => ?_⟩
      refine ⟨q8, none, none, none, rfl, sc.trans (same_upd n8), sc.free n8, .new n8 (Nat.le_refl 8) fun x hx => ?_⟩
      simp only [List.mem_cons, List.not_mem_nil, or_false] at hx
      rcases hx with rfl | rfl | rfl | rfl | rfl | rfl | rfl | rfl
      · exact badO_ty (n := "NoneType") (by decide) .non
      · exact b1
      · exact badO_ty (n := "str") (by decide) (.str _)
      · exact b2
      · exact badO_ty (n := "int") (by decide) (.int _)
      · exact b3
      · exact b4
      · exact b5
    obtain ⟨q0, v7, v8, v9, rfl, S2, nq, xs, eq0, xl, xb⟩ := hM
    replace xb := fun x hx => BadO.same (xb x hx) wo_same
    -- with other last numbers, one more ahead
    refine ⟨fun σ' H' => ∃ q v7 v8 v9, σ' = [some (.str (wd l)), some (.ref p), some (.ref du), some (.int far), some (.int (l.length : Int)), some (.ref k0), some (.ref q), v7, v8, v9] ∧ Same H1 H' ∧ H1 q = none ∧ WrongAt K l H' q 12, ?_, fun σ3 H3 hM => ?_⟩
    · have hp1 := S2 _ _ (S1 _ _ hp)
      have hlen : ∀ ns : List Int, ns.length ≤ l.length + 2 → ns.length ≤ 900 := fun ns h => by omega
      have hdl : fs.dropLast.length = l.length := by rw [List.length_dropLast, hfl]; rfl
      generalize hG : H2 = G1 at hp1 eq0 xb S2 ⊢
      have sc : Same G1 G1 := same_refl
      refine ⟨_, rfl, ?_⟩
      refine ⟨_, rfl, _, rfl, _, rfl, p, _, rfl, .inl (.inr ⟨o, hp1⟩), fun r1 n1 => ?_⟩
      rw [show (-(1 : Int)) = -1 from rfl, cut_last, ← List.map_dropLast] at *
      have u1 := same_upd (o := .lst (fs.dropLast.map V.int)) n1
      have e1 : upd G1 r1 (.lst (fs.dropLast.map V.int)) r1 = some (.lst (fs.dropLast.map V.int)) := upd_same
      generalize upd G1 r1 (.lst (fs.dropLast.map V.int)) = G2 at u1 e1 ⊢
      replace hp1 := u1 _ _ hp1
      replace eq0 := u1 _ _ eq0
      replace xb := fun x hx => BadO.same (xb x hx) u1
      replace sc := Same.trans sc u1
      refine ⟨_, rfl, (show 1 ≤ sizeLine by decide), fun r2 n2 => ?_⟩
      have u2 := same_upd (o := .lst [.int (-1)]) n2
      have e2 : upd G2 r2 (.lst [.int (-1)]) r2 = some (.lst [.int (-1)]) := upd_same
      generalize upd G2 r2 (.lst [.int (-1)]) = G3 at u2 e2 ⊢
      replace hp1 := u2 _ _ hp1
      replace eq0 := u2 _ _ eq0
      replace xb := fun x hx => BadO.same (xb x hx) u2
      replace sc := Same.trans sc u2
      replace e1 := u2 _ _ e1
      refine ⟨r1, r2, _, _, rfl, rfl, .inl e1, .inl e2, ?_, fun r3 n3 => ?_⟩
      · rw [List.length_map]
        exact Nat.le_trans (show fs.dropLast.length + 1 ≤ 2000 by omega) hsm
      have u3 := same_upd (o := .lst (fs.dropLast.map V.int ++ [.int (-1)])) n3
      have e3 : upd G3 r3 (.lst (fs.dropLast.map V.int ++ [.int (-1)])) r3 = some (.lst (fs.dropLast.map V.int ++ [.int (-1)])) := upd_same
      generalize upd G3 r3 (.lst (fs.dropLast.map V.int ++ [.int (-1)])) = G4 at u3 e3 ⊢
      replace hp1 := u3 _ _ hp1
      replace eq0 := u3 _ _ eq0
      replace xb := fun x hx => BadO.same (xb x hx) u3
      replace sc := Same.trans sc u3
      have c1 : BadO K G4 l (.ref r3) := badO_np (ns := fs.dropLast ++ [(-1 : Int)]) (.inl (.inl (by rw [e3, List.map_append]; rfl))) (by rw [List.length_append]; show fs.dropLast.length + 1 ≤ 900; omega) (np_mem (x := (-1 : Int)) (by simp) (.inl (by decide)))
      refine ⟨_, rfl, _, rfl, _, rfl, p, _, rfl, .inl (.inr ⟨o, hp1⟩), fun r4 n4 => ?_⟩
      rw [show (-(1 : Int)) = -1 from rfl, cut_last, ← List.map_dropLast] at *
      have u4 := same_upd (o := .lst (fs.dropLast.map V.int)) n4
      have e4 : upd G4 r4 (.lst (fs.dropLast.map V.int)) r4 = some (.lst (fs.dropLast.map V.int)) := upd_same
      generalize upd G4 r4 (.lst (fs.dropLast.map V.int)) = G5 at u4 e4 ⊢
      replace hp1 := u4 _ _ hp1
      replace eq0 := u4 _ _ eq0
      replace xb := fun x hx => BadO.same (xb x hx) u4
      replace sc := Same.trans sc u4
      replace c1 := BadO.same c1 u4
      refine ⟨(show 1 ≤ sizeLine by decide), fun r5 n5 => ?_⟩
      have u5 := same_upd (o := .lst [.str "0"]) n5
      have e5 : upd G5 r5 (.lst [.str "0"]) r5 = some (.lst [.str "0"]) := upd_same
      generalize upd G5 r5 (.lst [.str "0"]) = G6 at u5 e5 ⊢
      replace hp1 := u5 _ _ hp1
      replace eq0 := u5 _ _ eq0
      replace xb := fun x hx => BadO.same (xb x hx) u5
      replace sc := Same.trans sc u5
      replace c1 := BadO.same c1 u5
      replace e4 := u5 _ _ e4
      refine ⟨r4, r5, _, _, rfl, rfl, .inl e4, .inl e5, ?_, fun r6 n6 => ?_⟩
      · rw [List.length_map]
        exact Nat.le_trans (show fs.dropLast.length + 1 ≤ 2000 by omega) hsm
      have u6 := same_upd (o := .lst (fs.dropLast.map V.int ++ [.str "0"])) n6
      have e6 : upd G6 r6 (.lst (fs.dropLast.map V.int ++ [.str "0"])) r6 = some (.lst (fs.dropLast.map V.int ++ [.str "0"])) := upd_same
      generalize upd G6 r6 (.lst (fs.dropLast.map V.int ++ [.str "0"])) = G7 at u6 e6 ⊢
      replace hp1 := u6 _ _ hp1
      replace eq0 := u6 _ _ eq0
      replace xb := fun x hx => BadO.same (xb x hx) u6
      replace sc := Same.trans sc u6
      replace c1 := BadO.same c1 u6
      have c2 : BadO K G7 l (.ref r6) := .inl (badL_mix (ns := fs.dropLast) (ms := []) (y := .str "0") (.inl (.inl (by rw [e6]; simp))) ⟨"str", by decide, .str _⟩)
      refine ⟨_, rfl, _, rfl, _, rfl, p, _, rfl, .inl (.inr ⟨o, hp1⟩), fun r7 n7 => ?_⟩
      rw [show (-(1 : Int)) = -1 from rfl, cut_last, ← List.map_dropLast] at *
      have u7 := same_upd (o := .lst (fs.dropLast.map V.int)) n7
      have e7 : upd G7 r7 (.lst (fs.dropLast.map V.int)) r7 = some (.lst (fs.dropLast.map V.int)) := upd_same
      generalize upd G7 r7 (.lst (fs.dropLast.map V.int)) = G8 at u7 e7 ⊢
      replace hp1 := u7 _ _ hp1
      replace eq0 := u7 _ _ eq0
      replace xb := fun x hx => BadO.same (xb x hx) u7
      replace sc := Same.trans sc u7
      replace c1 := BadO.same c1 u7
      replace c2 := BadO.same c2 u7
      refine ⟨_, rfl, _, _, rfl, rfl, _, rfl, _, _, rfl, rfl, (show 1 ≤ sizeLine by decide), fun r8 n8 => ?_⟩
      have u8 := same_upd (o := .lst [.int ((l.length : Int) + 1 + far)]) n8
      have e8 : upd G8 r8 (.lst [.int ((l.length : Int) + 1 + far)]) r8 = some (.lst [.int ((l.length : Int) + 1 + far)]) := upd_same
      generalize upd G8 r8 (.lst [.int ((l.length : Int) + 1 + far)]) = G9 at u8 e8 ⊢
      replace hp1 := u8 _ _ hp1
      replace eq0 := u8 _ _ eq0
      replace xb := fun x hx => BadO.same (xb x hx) u8
      replace sc := Same.trans sc u8
      replace c1 := BadO.same c1 u8
      replace c2 := BadO.same c2 u8
      replace e7 := u8 _ _ e7
      refine ⟨r7, r8, _, _, rfl, rfl, .inl e7, .inl e8, ?_, fun r9 n9 => ?_⟩
      · rw [List.length_map]
        exact Nat.le_trans (show fs.dropLast.length + 1 ≤ 2000 by omega) hsm
      have u9 := same_upd (o := .lst (fs.dropLast.map V.int ++ [.int ((l.length : Int) + 1 + far)])) n9
      have e9 : upd G9 r9 (.lst (fs.dropLast.map V.int ++ [.int ((l.length : Int) + 1 + far)])) r9 = some (.lst (fs.dropLast.map V.int ++ [.int ((l.length : Int) + 1 + far)])) := upd_same
      generalize upd G9 r9 (.lst (fs.dropLast.map V.int ++ [.int ((l.length : Int) + 1 + far)])) = G10 at u9 e9 ⊢
      replace hp1 := u9 _ _ hp1
      replace eq0 := u9 _ _ eq0
      replace xb := fun x hx => BadO.same (xb x hx) u9
      replace sc := Same.trans sc u9
      replace c1 := BadO.same c1 u9
      replace c2 := BadO.same c2 u9
      have c3 : BadO K G10 l (.ref r9) := badO_np (ns := fs.dropLast ++ [(l.length : Int) + 1 + far]) (.inl (.inl (by rw [e9, List.map_append]; rfl))) (by rw [List.length_append]; show fs.dropLast.length + 1 ≤ 900; omega) (np_mem (x := (l.length : Int) + 1 + far) (by simp) (.inr (by omega)))
      have hf0' : fs[0]? = some (fs[0]'(by omega)) := List.getElem?_eq_getElem (by omega)
      generalize fs[0]'(by omega) = z0 at hf0'
      refine ⟨_, rfl, p, _, _, _, rfl, rfl, .inl (.inr ⟨o, hp1⟩), atI_nat (j := 0) (v := V.int z0) (by rw [List.getElem?_map, hf0']; rfl), (show 1 ≤ sizeLine by decide), fun r10 n10 => ?_⟩
      have u10 := same_upd (o := .lst [.int z0]) n10
      have e10 : upd G10 r10 (.lst [.int z0]) r10 = some (.lst [.int z0]) := upd_same
      generalize upd G10 r10 (.lst [.int z0]) = G11 at u10 e10 ⊢
      replace hp1 := u10 _ _ hp1
      replace eq0 := u10 _ _ eq0
      replace xb := fun x hx => BadO.same (xb x hx) u10
      replace sc := Same.trans sc u10
      replace c1 := BadO.same c1 u10
      replace c2 := BadO.same c2 u10
      replace c3 := BadO.same c3 u10
      refine ⟨_, rfl, r10, p, _, _, rfl, rfl, .inl e10, .inr ⟨o, hp1⟩, ?_, fun r11 n11 => ?_⟩
      · rw [List.length_map]
        exact Nat.le_trans (show 1 + fs.length ≤ 2000 by omega) hsm
      have u11 := same_upd (o := .lst ([.int z0] ++ fs.map V.int)) n11
      have e11 : upd G11 r11 (.lst ([.int z0] ++ fs.map V.int)) r11 = some (.lst ([.int z0] ++ fs.map V.int)) := upd_same
      generalize upd G11 r11 (.lst ([.int z0] ++ fs.map V.int)) = G12 at u11 e11 ⊢
      replace hp1 := u11 _ _ hp1
      replace eq0 := u11 _ _ eq0
      replace xb := fun x hx => BadO.same (xb x hx) u11
      replace sc := Same.trans sc u11
      replace c1 := BadO.same c1 u11
      replace c2 := BadO.same c2 u11
      replace c3 := BadO.same c3 u11
      have c4 : BadO K G12 l (.ref r11) := badO_np (ns := z0 :: fs) (.inl (.inl (by rw [e11]; rfl))) (by rw [List.length_cons]; omega) (np_len (by rw [List.length_cons, hfl]; omega))
      refine ⟨(show 4 ≤ sizeLine by decide), fun r12 n12 => ?_⟩
      have u12 := same_upd (o := .lst [.ref r3, .ref r6, .ref r9, .ref r11]) n12
      have e12 : upd G12 r12 (.lst [.ref r3, .ref r6, .ref r9, .ref r11]) r12 = some (.lst [.ref r3, .ref r6, .ref r9, .ref r11]) := upd_same
      generalize upd G12 r12 (.lst [.ref r3, .ref r6, .ref r9, .ref r11]) = G13 at u12 e12 ⊢
      replace hp1 := u12 _ _ hp1
      replace eq0 := u12 _ _ eq0
      replace xb := fun x hx => BadO.same (xb x hx) u12
      replace sc := Same.trans sc u12
      replace c1 := BadO.same c1 u12
      replace c2 := BadO.same c2 u12
      replace c3 := BadO.same c3 u12
      replace c4 := BadO.same c4 u12
      refine ⟨q0, r12, _, _, rfl, rfl, .inl eq0, .inl e12, Nat.le_trans (show xs.length + 4 ≤ 2000 by omega) hsm, fun r13 n13 => ?_⟩
      refine ⟨r13, _, _, _, rfl, (S2.trans (sc.trans (same_upd n13))), S2.free (sc.free n13), .new n13 (by rw [List.length_append]; show xs.length + 4 ≤ 12; omega) fun x hx => ?_⟩
      rcases List.mem_append.mp hx with hx | hx
      · exact xb x hx
      simp only [List.mem_cons, List.not_mem_nil, or_false] at hx
      rcases hx with rfl | rfl | rfl | rfl
      · exact c1
      · exact c2
      · exact c3
      · exact c4
    obtain ⟨q0, v7, v8, v9, rfl, S3, nq, xs, eq0, xl, xb⟩ := hM
    replace xb := fun x hx => BadO.same (xb x hx) wo_same
    -- numbers twice, the first two exchanged, a truth in it
    refine ⟨fun σ' H' => ∃ q v7 v8 v9, σ' = [some (.str (wd l)), some (.ref p), some (.ref du), some (.int far), some (.int (l.length : Int)), some (.ref k0), some (.ref q), v7, v8, v9] ∧ Same H1 H' ∧ H1 q = none ∧ WrongAt K l H' q 16, ?_, fun σ4 H4 hM => ?_⟩
    · have hp1 := S3 _ _ (S1 _ _ hp)
      have nd0 : fs.Nodup := ho.1.nodup_iff.mpr (upto_nodup _)
      generalize hG : H3 = G1 at hp1 eq0 xb S3 ⊢
      have sc : Same G1 G1 := same_refl
      refine ⟨_, rfl, _, _, rfl, rfl, _, rfl, ite2 (fun e => ?_) (fun e => ?_)⟩
      · have hl0 : 0 < l.length := Int.ofNat_lt.mp (of_decide_eq_true e)
        obtain ⟨a, b, r, rfl⟩ : ∃ a b r, fs = a :: b :: r := match fs, hfl with | a :: b :: r, _ => ⟨a, b, r, rfl⟩ | [a], h => by (have h : 1 = l.length + 1 := h; omega) | [], h => by (have h : 0 = l.length + 1 := h; omega)
        have hab : a ≠ b := fun e => (List.nodup_cons.mp nd0).1 (by rw [e]; exact List.mem_cons_self)
        have h2 : 2 ≤ ((a :: b :: r).map V.int).length := by rw [List.length_map]; show 2 ≤ r.length + 1 + 1; omega
        have hrl : r.length ≤ 100 := by have h : r.length + 1 + 1 = l.length + 1 := hfl; omega
        refine ⟨_, rfl, _, rfl, _, rfl, _, rfl, p, _, rfl, .inl (.inr ⟨o, hp1⟩), fun r1 n1 => ?_⟩
        rw [show (-(1 : Int)) = -1 from rfl, cut_last, ← List.map_dropLast] at *
        have u1 := same_upd (o := .lst ((a :: b :: r).dropLast.map V.int)) n1
        have e1 : upd G1 r1 (.lst ((a :: b :: r).dropLast.map V.int)) r1 = some (.lst ((a :: b :: r).dropLast.map V.int)) := upd_same
        generalize upd G1 r1 (.lst ((a :: b :: r).dropLast.map V.int)) = G2 at u1 e1 ⊢
        replace hp1 := u1 _ _ hp1
        replace eq0 := u1 _ _ eq0
        replace xb := fun x hx => BadO.same (xb x hx) u1
        replace sc := Same.trans sc u1
        refine ⟨_, rfl, 1, rfl, p, _, rfl, .inl (.inr ⟨o, hp1⟩), fun r2 n2 => ?_⟩
        rw [cut_one, ← List.map_take] at *
        have u2 := same_upd (o := .lst (((a :: b :: r).take 1).map V.int)) n2
        have e2 : upd G2 r2 (.lst (((a :: b :: r).take 1).map V.int)) r2 = some (.lst (((a :: b :: r).take 1).map V.int)) := upd_same
        generalize upd G2 r2 (.lst (((a :: b :: r).take 1).map V.int)) = G3 at u2 e2 ⊢
        replace hp1 := u2 _ _ hp1
        replace eq0 := u2 _ _ eq0
        replace xb := fun x hx => BadO.same (xb x hx) u2
        replace sc := Same.trans sc u2
        replace e1 := u2 _ _ e1
        refine ⟨r1, r2, _, _, rfl, rfl, .inl e1, .inl e2, ?_, fun r3 n3 => ?_⟩
        · rw [List.length_map, List.length_map, List.length_dropLast, List.length_take]
          exact Nat.le_trans (show r.length + 1 + 1 - 1 + min 1 (r.length + 1 + 1) ≤ 2000 by omega) hsm
        have u3 := same_upd (o := .lst ((a :: b :: r).dropLast.map V.int ++ ((a :: b :: r).take 1).map V.int)) n3
        have e3 : upd G3 r3 (.lst ((a :: b :: r).dropLast.map V.int ++ ((a :: b :: r).take 1).map V.int)) r3 = some (.lst ((a :: b :: r).dropLast.map V.int ++ ((a :: b :: r).take 1).map V.int)) := upd_same
        generalize upd G3 r3 (.lst ((a :: b :: r).dropLast.map V.int ++ ((a :: b :: r).take 1).map V.int)) = G4 at u3 e3 ⊢
        replace hp1 := u3 _ _ hp1
        replace eq0 := u3 _ _ eq0
        replace xb := fun x hx => BadO.same (xb x hx) u3
        replace sc := Same.trans sc u3
        have d1 : BadO K G4 l (.ref r3) := badO_np (ns := (a :: b :: r).dropLast ++ (a :: b :: r).take 1) (.inl (.inl (by rw [e3, List.map_append]))) (by rw [List.length_append, List.length_dropLast, List.length_take]; show r.length + 1 + 1 - 1 + min 1 (r.length + 1 + 1) ≤ 900; omega) (np_dup dup_first)
        refine ⟨_, rfl, 1, rfl, 2, rfl, p, _, rfl, .inl (.inr ⟨o, hp1⟩), .inl ⟨o, .inl hp1, co⟩, fun r4 o4 n4 _ c4 => ?_⟩
        rw [cut_12 h2] at *
        have u4 := same_upd (o := .frz o4 (.lst ((((a :: b :: r).map V.int).drop 1).take 1))) n4
        have e4 : upd G4 r4 (.frz o4 (.lst ((((a :: b :: r).map V.int).drop 1).take 1))) r4 = some (.frz o4 (.lst ((((a :: b :: r).map V.int).drop 1).take 1))) := upd_same
        generalize upd G4 r4 (.frz o4 (.lst ((((a :: b :: r).map V.int).drop 1).take 1))) = G5 at u4 e4 ⊢
        replace hp1 := u4 _ _ hp1
        replace eq0 := u4 _ _ eq0
        replace xb := fun x hx => BadO.same (xb x hx) u4
        replace sc := Same.trans sc u4
        replace d1 := BadO.same d1 u4
        refine ⟨_, rfl, 1, rfl, p, _, rfl, .inl (.inr ⟨o, hp1⟩), .inl ⟨o, .inl hp1, co⟩, fun r5 o5 n5 _ c5 => ?_⟩
        rw [cut_one] at *
        have u5 := same_upd (o := .frz o5 (.lst (((a :: b :: r).map V.int).take 1))) n5
        have e5 : upd G5 r5 (.frz o5 (.lst (((a :: b :: r).map V.int).take 1))) r5 = some (.frz o5 (.lst (((a :: b :: r).map V.int).take 1))) := upd_same
        generalize upd G5 r5 (.frz o5 (.lst (((a :: b :: r).map V.int).take 1))) = G6 at u5 e5 ⊢
        replace hp1 := u5 _ _ hp1
        replace eq0 := u5 _ _ eq0
        replace xb := fun x hx => BadO.same (xb x hx) u5
        replace sc := Same.trans sc u5
        replace d1 := BadO.same d1 u5
        replace e4 := u5 _ _ e4
        refine ⟨r4, r5, _, _, rfl, rfl, .inr ⟨_, e4⟩, .inl ⟨_, .inl e4, c4⟩, .inr ⟨_, e5⟩, .inl ⟨_, .inl e5, c5⟩, Nat.le_trans (show 2 ≤ 2000 by decide) hsm, fun r6 o6 n6 _ c6 => ?_⟩
        rw [show (((a :: b :: r).map V.int).drop 1).take 1 ++ ((a :: b :: r).map V.int).take 1 = [V.int b, V.int a] from rfl] at *
        have u6 := same_upd (o := .frz o6 (.lst ([V.int b, V.int a]))) n6
        have e6 : upd G6 r6 (.frz o6 (.lst ([V.int b, V.int a]))) r6 = some (.frz o6 (.lst ([V.int b, V.int a]))) := upd_same
        generalize upd G6 r6 (.frz o6 (.lst ([V.int b, V.int a]))) = G7 at u6 e6 ⊢
        replace hp1 := u6 _ _ hp1
        replace eq0 := u6 _ _ eq0
        replace xb := fun x hx => BadO.same (xb x hx) u6
        replace sc := Same.trans sc u6
        replace d1 := BadO.same d1 u6
        refine ⟨_, rfl, 2, rfl, p, _, rfl, .inl (.inr ⟨o, hp1⟩), .inl ⟨o, .inl hp1, co⟩, fun r7 o7 n7 _ c7 => ?_⟩
        rw [cut_from2, show (((a :: b :: r).map V.int).drop 2) = r.map V.int from rfl] at *
        have u7 := same_upd (o := .frz o7 (.lst (r.map V.int))) n7
        have e7 : upd G7 r7 (.frz o7 (.lst (r.map V.int))) r7 = some (.frz o7 (.lst (r.map V.int))) := upd_same
        generalize upd G7 r7 (.frz o7 (.lst (r.map V.int))) = G8 at u7 e7 ⊢
        replace hp1 := u7 _ _ hp1
        replace eq0 := u7 _ _ eq0
        replace xb := fun x hx => BadO.same (xb x hx) u7
        replace sc := Same.trans sc u7
        replace d1 := BadO.same d1 u7
        replace e6 := u7 _ _ e6
        refine ⟨r6, r7, _, _, rfl, rfl, .inr ⟨_, e6⟩, .inl ⟨_, .inl e6, c6⟩, .inr ⟨_, e7⟩, .inl ⟨_, .inl e7, c7⟩, ?_, fun r8 o8 n8 _ c8 => ?_⟩
        · rw [List.length_map]
          exact Nat.le_trans (show 2 + r.length ≤ 2000 by omega) hsm
        rw [show [V.int b, V.int a] ++ r.map V.int = (b :: a :: r).map V.int from rfl] at *
        have u8 := same_upd (o := .frz o8 (.lst ((b :: a :: r).map V.int))) n8
        have e8 : upd G8 r8 (.frz o8 (.lst ((b :: a :: r).map V.int))) r8 = some (.frz o8 (.lst ((b :: a :: r).map V.int))) := upd_same
        generalize upd G8 r8 (.frz o8 (.lst ((b :: a :: r).map V.int))) = G9 at u8 e8 ⊢
        replace hp1 := u8 _ _ hp1
        replace eq0 := u8 _ _ eq0
        replace xb := fun x hx => BadO.same (xb x hx) u8
        replace sc := Same.trans sc u8
        replace d1 := BadO.same d1 u8
        have d2 : BadO K G9 l (.ref r8) := .inr ⟨r8, b :: a :: r, rfl, .inl (.inr ⟨_, e8⟩), (show r.length + 1 + 1 ≤ 900 by omega), .inr ⟨(List.Perm.swap a b r).trans ho.1, fun z => swap_by hab (z.trans ho.2.symm), (show ClAt K G9 r8 _ from .inl ⟨_, .inl e8, c8⟩).toI⟩⟩
        refine ⟨_, rfl, 1, rfl, p, _, rfl, .inl (.inr ⟨o, hp1⟩), fun r9 n9 => ?_⟩
        rw [cut_rest, ← List.map_drop] at *
        have u9 := same_upd (o := .lst (((a :: b :: r).drop 1).map V.int)) n9
        have e9 : upd G9 r9 (.lst (((a :: b :: r).drop 1).map V.int)) r9 = some (.lst (((a :: b :: r).drop 1).map V.int)) := upd_same
        generalize upd G9 r9 (.lst (((a :: b :: r).drop 1).map V.int)) = G10 at u9 e9 ⊢
        replace hp1 := u9 _ _ hp1
        replace eq0 := u9 _ _ eq0
        replace xb := fun x hx => BadO.same (xb x hx) u9
        replace sc := Same.trans sc u9
        replace d1 := BadO.same d1 u9
        replace d2 := BadO.same d2 u9
        refine ⟨_, rfl, 1, rfl, 2, rfl, p, _, rfl, .inl (.inr ⟨o, hp1⟩), fun r10 n10 => ?_⟩
        rw [cut_12 h2, ← List.map_drop, ← List.map_take] at *
        have u10 := same_upd (o := .lst ((((a :: b :: r).drop 1).take 1).map V.int)) n10
        have e10 : upd G10 r10 (.lst ((((a :: b :: r).drop 1).take 1).map V.int)) r10 = some (.lst ((((a :: b :: r).drop 1).take 1).map V.int)) := upd_same
        generalize upd G10 r10 (.lst ((((a :: b :: r).drop 1).take 1).map V.int)) = G11 at u10 e10 ⊢
        replace hp1 := u10 _ _ hp1
        replace eq0 := u10 _ _ eq0
        replace xb := fun x hx => BadO.same (xb x hx) u10
        replace sc := Same.trans sc u10
        replace d1 := BadO.same d1 u10
        replace d2 := BadO.same d2 u10
        replace e9 := u10 _ _ e9
        refine ⟨r9, r10, _, _, rfl, rfl, .inl e9, .inl e10, ?_, fun r11 n11 => ?_⟩
        · rw [List.length_map, List.length_map]
          exact Nat.le_trans (show r.length + 1 + 1 ≤ 2000 by omega) hsm
        have u11 := same_upd (o := .lst (((a :: b :: r).drop 1).map V.int ++ (((a :: b :: r).drop 1).take 1).map V.int)) n11
        have e11 : upd G11 r11 (.lst (((a :: b :: r).drop 1).map V.int ++ (((a :: b :: r).drop 1).take 1).map V.int)) r11 = some (.lst (((a :: b :: r).drop 1).map V.int ++ (((a :: b :: r).drop 1).take 1).map V.int)) := upd_same
        generalize upd G11 r11 (.lst (((a :: b :: r).drop 1).map V.int ++ (((a :: b :: r).drop 1).take 1).map V.int)) = G12 at u11 e11 ⊢
        replace hp1 := u11 _ _ hp1
        replace eq0 := u11 _ _ eq0
        replace xb := fun x hx => BadO.same (xb x hx) u11
        replace sc := Same.trans sc u11
        replace d1 := BadO.same d1 u11
        replace d2 := BadO.same d2 u11
        have d3 : BadO K G12 l (.ref r11) := badO_np (ns := (a :: b :: r).drop 1 ++ ((a :: b :: r).drop 1).take 1) (.inl (.inl (by rw [e11, List.map_append]))) (by rw [List.length_append, List.length_take, List.length_drop]; show r.length + 1 + 1 - 1 + min 1 (r.length + 1 + 1 - 1) ≤ 900; omega) (np_dup dup_next)
        refine ⟨(show 3 ≤ sizeLine by decide), fun r12 n12 => ?_⟩
        have u12 := same_upd (o := .lst [.ref r3, .ref r8, .ref r11]) n12
        have e12 : upd G12 r12 (.lst [.ref r3, .ref r8, .ref r11]) r12 = some (.lst [.ref r3, .ref r8, .ref r11]) := upd_same
        generalize upd G12 r12 (.lst [.ref r3, .ref r8, .ref r11]) = G13 at u12 e12 ⊢
        replace hp1 := u12 _ _ hp1
        replace eq0 := u12 _ _ eq0
        replace xb := fun x hx => BadO.same (xb x hx) u12
        replace sc := Same.trans sc u12
        replace d1 := BadO.same d1 u12
        replace d2 := BadO.same d2 u12
        replace d3 := BadO.same d3 u12
        refine ⟨q0, r12, _, _, rfl, rfl, .inl eq0, .inl e12, Nat.le_trans (show xs.length + 3 ≤ 2000 by omega) hsm, fun r13 n13 => ?_⟩
        have xb2 : ∀ x ∈ (xs ++ [V.ref r3, V.ref r8, V.ref r11]), BadO K G13 l x := fun x hx => by
          rcases List.mem_append.mp hx with hx | hx
          · exact xb x hx
          simp only [List.mem_cons, List.not_mem_nil, or_false] at hx
          rcases hx with rfl | rfl | rfl
          · exact d1
          · exact d2
          · exact d3
        have xl2 : (xs ++ [V.ref r3, V.ref r8, V.ref r11]).length ≤ 15 := by rw [List.length_append]; show xs.length + 3 ≤ 15; omega
        generalize (xs ++ [V.ref r3, V.ref r8, V.ref r11]) = ys at xb2 xl2 ⊢
        have nr13 : H1 r13 = none := S3.free (sc.free n13)
        have xbo := xb2
        have n13o := n13
        have u13 := same_upd (o := .lst ys) n13
        have e13 : upd G13 r13 (.lst ys) r13 = some (.lst ys) := upd_same
        generalize upd G13 r13 (.lst ys) = G14 at u13 e13 ⊢
        replace hp1 := u13 _ _ hp1
        replace xb2 := fun x hx => BadO.same (xb2 x hx) u13
        replace sc := Same.trans sc u13
        refine ⟨_, rfl, .inl ⟨rfl, _, .inl (.inl e13)⟩, _, rfl, p, rfl, ⟨_, .inl (.inr ⟨o, hp1⟩)⟩, fun D nD => ?_⟩
        refine lc_list (xs := (a :: b :: r).map V.int) (fun j H5 => Same G14 H5 ∧ H5 D = some (.lst (((a :: b :: r).take j).map fun z => if z = 1 then V.bl true else V.int z))) ⟨same_upd nD, by rw [upd_same]; rfl⟩ (fun j H5 _ hW => .inl (.inr ⟨o, hW.1 _ _ hp1⟩)) (fun j x H5 hx hW => ?_) (fun H5 hW => ?_)
        · obtain ⟨s5, hD⟩ := hW
          obtain ⟨z, ez, rfl⟩ := map_get hx
          have hjl : j < r.length + 1 + 1 := (List.getElem?_eq_some_iff.mp ez).1
          have fin : ∀ v, v = (if z = 1 then V.bl true else V.int z) → ∃ acc, H5 D = some (.lst acc) ∧ acc.length < sizeLine ∧ Same G14 (upd H5 D (.lst (acc ++ [v]))) ∧ upd H5 D (.lst (acc ++ [v])) D = some (.lst (((a :: b :: r).take (j + 1)).map fun z => if z = 1 then V.bl true else V.int z)) := by
            intro v ev
            refine ⟨_, hD, ?_, ?_, ?_⟩
            · rw [List.length_map, List.length_take]
              exact Nat.lt_of_lt_of_le (show min j (r.length + 1 + 1) < 2000 by omega) hsm
            · intro b2 x2 e2
              rw [upd_ne (ne_of_none e2 nD)]
              exact s5 b2 x2 e2
            · rw [upd_same, List.take_add_one, ez, List.map_append, ev]
              rfl
          refine ⟨rfl, _, rfl, rfl, _, rfl, ite2 (fun e1 => ?_) (fun e1 => ⟨_, rfl, ?_⟩)⟩
          · exact fin _ (by rw [if_pos (V.int.inj (of_decide_eq_true e1))])
          · exact fin _ (by rw [if_neg fun e2 => e1 (decide_eq_true (congrArg V.int e2))])
        · obtain ⟨s5, hD⟩ := hW
          rw [List.length_map, List.take_of_length_le (Nat.le_refl _)] at hD
          have e13' := s5 _ _ e13
          have nDr : D ≠ r13 := (ne_of_none e13 nD).symm
          have bD : BadO K (wo H5 r13) l (.ref D) := .inl (.inr ⟨D, _, rfl, .inl (.inl ((wo_at nDr).trans hD)), fun y hy => ?_, .bl true, ?_, "bool", by decide, .bl true⟩)
          rotate_left
          · obtain ⟨z, _, rfl⟩ := List.mem_map.mp hy
            by_cases h1 : z = 1
            · rw [if_pos h1]
              exact ⟨"bool", by decide, .bl true⟩
            · rw [if_neg h1]
              exact int_any
          · refine List.mem_map.mpr ⟨1, ho.1.mem_iff.mpr (mem_upto.mpr ⟨by decide, by omega⟩), if_pos rfl⟩
          refine ⟨r13, ys, _, rfl, rfl, e13', Nat.lt_of_lt_of_le (show ys.length < 2000 by omega) hsm, r13, _, _, _, rfl, fun b0 u0 e0 => ?_, nr13, _, upd_same, by rw [List.length_append]; show ys.length + 1 ≤ 16; omega, fun x hx => ?_⟩
          · rw [upd_ne (ne_of_none e0 nr13)]
            exact s5 _ _ (sc _ _ (S3 _ _ e0))
          · rw [wo_upd]
            rcases List.mem_append.mp hx with hx | hx
            · exact (xbo x hx).same (wo_of n13o (u13.trans s5))
            · rw [List.mem_singleton.mp hx]
              exact bD
      · have hl0 : l.length = 0 := Nat.eq_zero_of_not_pos fun h => e (decide_eq_true (Int.ofNat_lt.mpr h))
        refine ⟨_, rfl, (show 1 ≤ sizeLine by decide), fun r1 n1 => ?_⟩
        have u1 := same_upd (o := .lst [.bl false]) n1
        have e1 : upd G1 r1 (.lst [.bl false]) r1 = some (.lst [.bl false]) := upd_same
        generalize upd G1 r1 (.lst [.bl false]) = G2 at u1 e1 ⊢
        replace eq0 := u1 _ _ eq0
        replace xb := fun x hx => BadO.same (xb x hx) u1
        replace sc := Same.trans sc u1
        have d1 : BadO K G2 l (.ref r1) := .inl (badL_mix (ns := []) (ms := []) (y := .bl false) (.inl (.inl (by rw [e1]; rfl))) ⟨"bool", by decide, .bl false⟩)
        refine ⟨(show 1 ≤ sizeLine by decide), fun r2 n2 => ?_⟩
        have u2 := same_upd (o := .lst [.int 1]) n2
        have e2 : upd G2 r2 (.lst [.int 1]) r2 = some (.lst [.int 1]) := upd_same
        generalize upd G2 r2 (.lst [.int 1]) = G3 at u2 e2 ⊢
        replace eq0 := u2 _ _ eq0
        replace xb := fun x hx => BadO.same (xb x hx) u2
        replace sc := Same.trans sc u2
        replace d1 := BadO.same d1 u2
        have d2 : BadO K G3 l (.ref r2) := badO_np (ns := [1]) (.inl (.inl e2)) (by decide) (np_mem (x := 1) (by decide) (.inr (by omega)))
        refine ⟨(show 2 ≤ sizeLine by decide), fun r3 n3 => ?_⟩
        have u3 := same_upd (o := .lst [.ref r1, .ref r2]) n3
        have e3 : upd G3 r3 (.lst [.ref r1, .ref r2]) r3 = some (.lst [.ref r1, .ref r2]) := upd_same
        generalize upd G3 r3 (.lst [.ref r1, .ref r2]) = G4 at u3 e3 ⊢
        replace eq0 := u3 _ _ eq0
        replace xb := fun x hx => BadO.same (xb x hx) u3
        replace sc := Same.trans sc u3
        replace d1 := BadO.same d1 u3
        replace d2 := BadO.same d2 u3
        refine ⟨q0, r3, _, _, rfl, rfl, .inl eq0, .inl e3, Nat.le_trans (show xs.length + 2 ≤ 2000 by omega) hsm, fun r4 n4 => ?_⟩
        refine ⟨r4, _, _, _, rfl, (S3.trans (sc.trans (same_upd n4))), S3.free (sc.free n4), .new n4 (by rw [List.length_append]; show xs.length + 2 ≤ 16; omega) fun x hx => ?_⟩
        rcases List.mem_append.mp hx with hx | hx
        · exact xb x hx
        simp only [List.mem_cons, List.not_mem_nil, or_false] at hx
        rcases hx with rfl | rfl
        · exact d1
        · exact d2
    obtain ⟨q0, v7, v8, v9, rfl, S4, nq, WA⟩ := hM
    -- a strange item at some places
    refine ⟨fun σ' H' => ∃ v7 v8 v9, σ' = [some (.str (wd l)), some (.ref p), some (.ref du), some (.int far), some (.int (l.length : Int)), some (.ref k0), some (.ref q0), v7, v8, v9] ∧ Same H1 H' ∧ WrongAt K l H' q0 116, ?_, fun σ5 H5 hM => ?_⟩
    · obtain ⟨g1, g2, g3⟩ := rg_ok (m := l.length) hl
      refine ⟨_, rfl, _, rfl, _, _, rfl, rfl, (show CDiv _ 6 from ⟨by decide, by decide⟩), _, _, rfl, rfl, 0, _, _, rgN l.length, rfl, g1, for_rangeC (fun i σ H' => ∃ v7 v8 v9, σ = [some (.str (wd l)), some (.ref p), some (.ref du), some (.int far), some (.int (l.length : Int)), some (.ref k0), some (.ref q0), v7, v8, v9] ∧ Same H1 H' ∧ WrongAt K l H' q0 (16 + i)) ⟨_, _, _, rfl, S4, WA⟩ (fun i σ G1 hi hW => ?_) (fun σ G1 hW => ?_)⟩
      · obtain ⟨v7, v8, v9, rfl, S5, xs, eq0, xl, xb⟩ := hW
        obtain ⟨k, ek, hk⟩ := g3 i hi
        have hp1 := S5 _ _ (S1 _ _ hp)
        have xb0 := xb
        have sc : Same G1 G1 := same_refl
        rw [ek]
        refine ⟨_, rfl, .inl ⟨rfl, _, .inl (.inl eq0)⟩, ?_⟩
        refine ⟨_, rfl, _, rfl, _, rfl, p, _, rfl, .inl (.inr ⟨o, hp1⟩), fun r1 n1 => ?_⟩
        rw [cut_take, ← List.map_take] at *
        have u1 := same_upd (o := .lst ((fs.take k).map V.int)) n1
        have e1 : upd G1 r1 (.lst ((fs.take k).map V.int)) r1 = some (.lst ((fs.take k).map V.int)) := upd_same
        generalize upd G1 r1 (.lst ((fs.take k).map V.int)) = G2 at u1 e1 ⊢
        replace hp1 := u1 _ _ hp1
        replace eq0 := u1 _ _ eq0
        replace sc := Same.trans sc u1
        refine ⟨_, rfl, _, _, rfl, rfl, _, rfl, _, rfl, _, _, rfl, rfl, (show 4 ≤ sizeLine by decide), fun r2 n2 => ?_⟩
        rw [show (-(1 : Int)) = -1 from rfl] at *
        have u2 := same_upd (o := .tup [V.non, V.str "1", V.int ((l.length : Int) + 1), V.int (-1 - far)]) n2
        have e2 : upd G2 r2 (.tup [V.non, V.str "1", V.int ((l.length : Int) + 1), V.int (-1 - far)]) r2 = some (.tup [V.non, V.str "1", V.int ((l.length : Int) + 1), V.int (-1 - far)]) := upd_same
        generalize upd G2 r2 (.tup [V.non, V.str "1", V.int ((l.length : Int) + 1), V.int (-1 - far)]) = G3 at u2 e2 ⊢
        replace hp1 := u2 _ _ hp1
        replace eq0 := u2 _ _ eq0
        replace sc := Same.trans sc u2
        replace e1 := u2 _ _ e1
        obtain ⟨v, hv, hbad⟩ : ∃ v, atI [V.non, V.str "1", V.int ((l.length : Int) + 1), V.int (-1 - far)] ((k : Int) % 4) = some v ∧ ((∀ H, TyIn H v notInt) ∨ ∃ z, v = .int z ∧ (z < 0 ∨ ((l.length + 1 : Nat) : Int) ≤ z)) := by
          have h4 : k % 4 = 0 ∨ k % 4 = 1 ∨ k % 4 = 2 ∨ k % 4 = 3 := by omega
          have ec : (k : Int) % 4 = ((k % 4 : Nat) : Int) := by omega
          rw [ec]
          rcases h4 with h | h | h | h <;> rw [h]
          · exact ⟨.non, rfl, .inl fun H => ⟨"NoneType", by decide, .non⟩⟩
          · exact ⟨.str "1", rfl, .inl fun H => ⟨"str", by decide, .str _⟩⟩
          · exact ⟨_, rfl, .inr ⟨_, rfl, .inr (by omega)⟩⟩
          · exact ⟨_, rfl, .inr ⟨_, rfl, .inl (by omega)⟩⟩
        refine ⟨_, rfl, _, _, rfl, rfl, (show (0 : Int) < 4 by decide), r2, _, _, v, rfl, rfl, SqT.of e2, hv, (show 1 ≤ sizeLine by decide), fun r3 n3 => ?_⟩
        have u3 := same_upd (o := .lst [v]) n3
        have e3 : upd G3 r3 (.lst [v]) r3 = some (.lst [v]) := upd_same
        generalize upd G3 r3 (.lst [v]) = G4 at u3 e3 ⊢
        replace hp1 := u3 _ _ hp1
        replace eq0 := u3 _ _ eq0
        replace sc := Same.trans sc u3
        replace e1 := u3 _ _ e1
        refine ⟨r1, r3, _, _, rfl, rfl, .inl e1, .inl e3, ?_, fun r4 n4 => ?_⟩
        · rw [List.length_map, List.length_take]
          exact Nat.le_trans (show min k fs.length + 1 ≤ 2000 by omega) hsm
        have u4 := same_upd (o := .lst ((fs.take k).map V.int ++ [v])) n4
        have e4 : upd G4 r4 (.lst ((fs.take k).map V.int ++ [v])) r4 = some (.lst ((fs.take k).map V.int ++ [v])) := upd_same
        generalize upd G4 r4 (.lst ((fs.take k).map V.int ++ [v])) = G5 at u4 e4 ⊢
        replace hp1 := u4 _ _ hp1
        replace eq0 := u4 _ _ eq0
        replace sc := Same.trans sc u4
        refine ⟨_, rfl, _, rfl, _, _, rfl, rfl, _, rfl, p, _, rfl, .inl (.inr ⟨o, hp1⟩), fun r5 n5 => ?_⟩
        rw [show (k : Int) + 1 = ((k + 1 : Nat) : Int) from rfl, cut_drop, ← List.map_drop] at *
        have u5 := same_upd (o := .lst ((fs.drop (k + 1)).map V.int)) n5
        have e5 : upd G5 r5 (.lst ((fs.drop (k + 1)).map V.int)) r5 = some (.lst ((fs.drop (k + 1)).map V.int)) := upd_same
        generalize upd G5 r5 (.lst ((fs.drop (k + 1)).map V.int)) = G6 at u5 e5 ⊢
        replace hp1 := u5 _ _ hp1
        replace eq0 := u5 _ _ eq0
        replace sc := Same.trans sc u5
        replace e4 := u5 _ _ e4
        refine ⟨r4, r5, _, _, rfl, rfl, .inl e4, .inl e5, ?_, fun r6 n6 => ?_⟩
        · rw [List.length_append, List.length_map, List.length_take, List.length_map, List.length_drop]
          exact Nat.le_trans (show min k fs.length + 1 + (fs.length - (k + 1)) ≤ 2000 by omega) hsm
        have n6q : r6 ≠ q0 := (ne_of_none eq0 n6).symm
        have u6 := same_upd (o := .lst ((fs.take k).map V.int ++ [v] ++ (fs.drop (k + 1)).map V.int)) n6
        have e6 : upd G6 r6 (.lst ((fs.take k).map V.int ++ [v] ++ (fs.drop (k + 1)).map V.int)) r6 = some (.lst ((fs.take k).map V.int ++ [v] ++ (fs.drop (k + 1)).map V.int)) := upd_same
        generalize upd G6 r6 (.lst ((fs.take k).map V.int ++ [v] ++ (fs.drop (k + 1)).map V.int)) = G7 at u6 e6 ⊢
        replace hp1 := u6 _ _ hp1
        replace eq0 := u6 _ _ eq0
        replace sc := Same.trans sc u6
        have e6' : wo G7 q0 r6 = some (.lst ((fs.take k).map V.int ++ [v] ++ (fs.drop (k + 1)).map V.int)) := (wo_at n6q).trans e6
        have d : BadO K (wo G7 q0) l (.ref r6) := by
          rcases hbad with hb | ⟨z, rfl, hz⟩
          · exact .inl (badL_mix (ns := fs.take k) (ms := fs.drop (k + 1)) (.inl (.inl e6')) (hb _))
          · refine badO_np (ns := fs.take k ++ [z] ++ fs.drop (k + 1)) (.inl (.inl ?_)) ?_ (np_mem (x := z) (by simp) hz)
            · rw [e6', List.map_append, List.map_append]
              rfl
            · rw [List.length_append, List.length_append, List.length_take, List.length_drop]
              show min k fs.length + 1 + (fs.length - (k + 1)) ≤ 900
              omega
        refine ⟨q0, xs, _, rfl, rfl, eq0, Nat.lt_of_lt_of_le (show xs.length < 2000 by omega) hsm, _, _, _, rfl, fun b0 u0 e0 => ?_, xs ++ [.ref r6], upd_same, by rw [List.length_append]; show xs.length + 1 ≤ 16 + (i + 1); omega, fun x hx => ?_⟩
        · rw [upd_ne (ne_of_none e0 nq)]
          exact sc _ _ (S5 _ _ e0)
        · rw [wo_upd]
          rcases List.mem_append.mp hx with hx | hx
          · exact (xb0 x hx).same (wo_wo sc)
          · rw [List.mem_singleton.mp hx]
            exact d
      · obtain ⟨v7, v8, v9, rfl, S5, xs, eq0, xl, xb⟩ := hW
        exact ⟨_, _, _, rfl, S5, xs, eq0, by omega, xb⟩
    obtain ⟨v7, v8, v9, rfl, S5, xs, eq0, xl, xb⟩ := hM
    -- each of them is refused
    have xb5 : ∀ x ∈ xs, BadO K H5 l x := fun x hx => (xb x hx).same wo_same
    have T5 := t.same (S1.trans S5)
    refine ⟨fun σ' H' => ∃ v7 v8 v9, σ' = [some (.str (wd l)), some (.ref p), some (.ref du), some (.int far), some (.int (l.length : Int)), some (.ref k0), some (.ref q0), v7, v8, v9] ∧ SameT Ts H5 H' ∧ TabsG H' Ts, ?_, fun σ6 H6 hM => ?_⟩
    · refine ⟨_, rfl, q0, rfl, ⟨_, .inl (.inl eq0)⟩, fun D nD => ?_⟩
      refine lc_list (xs := xs) (fun j G => SameT Ts H5 G ∧ TabsG G Ts ∧ G D = some (.lst ((List.replicate j true).map V.bl))) ⟨sameT (same_upd nD), T5.same (same_upd nD), by rw [upd_same]; rfl⟩ (fun j G _ hW => .inl (.inl (T5.keep hW.1 eq0 fun _ z => by cases z))) (fun j x G hx hW => ?_) (fun G hW => ?_)
      · obtain ⟨s5, t5, hD⟩ := hW
        have hil : j < xs.length := (List.getElem?_eq_some_iff.mp hx).1
        refine ⟨rfl, _, rfl, _, rfl, fN, _, .str (wd l), x, c.o, 2, rfl, hN, ⟨_, x, rfl, .inr ⟨l, rfl, by omega, (xb5 x (List.mem_of_getElem? hx)).tabs T5 s5, rfl⟩⟩, eO, em, t5, fun G2 pp s6 t6 np hpp => ?_⟩
        refine ⟨_, rfl, _, _, dp_flags (.inl (.inl hpp)), dp_flags (sq_tabs t (sameT (S1.trans S5) |>.trans (s5.trans s6)) hdu), sh_flags 2, sh_flags 2, ?_⟩
        rw [eq_flags]
        have hD6 := t5.keep s6 hD fun _ z => by cases z
        refine ⟨_, hD6, ?_, ?_, fun T hT => ?_, ?_⟩
        · rw [List.length_map, List.length_replicate]
          exact Nat.lt_of_lt_of_le (show j < 2000 by omega) hsm
        · intro b2 x2 hb e2
          rw [upd_ne (ne_of_none e2 nD)]
          exact s6 b2 x2 hb (s5 b2 x2 hb e2)
        · obtain ⟨ps, eP, hp2⟩ := t6 T hT
          exact ⟨ps, by rw [upd_ne (ne_of eP hD6 (fun z => by cases z))]; exact eP, hp2⟩
        · rw [upd_same, List.replicate_succ', List.map_append]
          rfl
      · obtain ⟨s5, t5, hD⟩ := hW
        refine ⟨D, _, rfl, .inl (.inl hD), ?_⟩
        rw [show (List.replicate xs.length true).all id = true by simp]
        exact ⟨_, rfl, iteF ⟨_, _, _, rfl, s5, t5⟩⟩
    obtain ⟨v7, v8, v9, rfl, s6, t6⟩ := hM
    -- of a longer word; the order stands
    have hp6 := T5.keep s6 (S5 _ _ (S1 _ _ hp)) fun _ z => by cases z
    have hk6 := T5.keep s6 (S5 _ _ hk0) fun _ z => by cases z
    have ew : wd l ++ (Str.ofString "u" : Str) = wd (l ++ [true]) := by rw [show (Str.ofString "u" : Str) = wd [true] by decide +kernel, wd_app]
    refine ⟨_, rfl, _, _, rfl, rfl, ?_, _, rfl, fN, _, .str (wd (l ++ [true])), .ref p, c.o, 2, congrArg (fun z => [V.ref fN, V.str z, V.ref p]) ew, hN, ⟨_, _, rfl, .inr ⟨l ++ [true], rfl, ?_, ?_, rfl⟩⟩, eO, em, t6, fun H7 pp s7 t7 np hpp => ?_⟩
    · rw [wd_len]
      exact Nat.le_trans (show l.length + 1 ≤ 2000 by omega) hsm
    · rw [List.length_append]
      show l.length + 1 ≤ 800
      omega
    · exact badO_np (ns := fs) (.inl (.inr ⟨o, hp6⟩)) (by omega) (np_len (by rw [List.length_append, hfl]; show l.length + 1 ≠ l.length + 1 + 1; omega))
    have S7 : SameT Ts H H7 := (sameT (S1.trans S5)).trans (s6.trans s7)
    refine ⟨_, rfl, _, _, dp_flags (.inl (.inl hpp)), dp_flags (sq_tabs t S7 hdu), sh_flags 2, sh_flags 2, ?_⟩
    rw [eq_flags]
    refine ⟨_, rfl, iteT ?_⟩
    have hp7 := t6.keep s7 hp6 fun _ z => by cases z
    have hk7 := t6.keep s7 hk6 fun _ z => by cases z
    refine ⟨_, rfl, _, rfl, _, _, dp_list (ns := fs) (.inl (.inr ⟨o, hp7⟩)), dp_list (ns := fs) (.inl (.inl hk7)), PySem.W.shaped_ints _, PySem.W.shaped_ints _, ?_⟩
    rw [eqv_ints, decide_eq_true rfl]
    exact q H7 S7 t7
end
end K5
end
-- part K5H
section
set_option Elab.async false
set_option linter.all false
set_option maxRecDepth 100000
set_option maxHeartbeats 8000000
namespace K5
open PySem PySem.Spec PyProof.Rows L2 RFI K1 ZG CwR K2 RFX
abbrev nRr : List Str := ["_law_script", "_law_due", "_law_far_here", "_law_rows", "_law_at"]
theorem scRr : FnScope nRr ["_law_script", "_law_due", "_law_far_here"] (defScope sRr) := ⟨rfl, rfl, rfl, by decide +kernel, rfl, by decide +kernel, by decide +kernel⟩
/-- a list of what is no row -/
def RowsAt (K : PySem.W.Frag) (H : Hp) (q : Addr) (n : Nat) : Prop := ∃ xs, H q = some (.lst xs) ∧ xs.length ≤ n ∧ ∀ x ∈ xs, BadL K (wo H q) x
theorem RowsAt.new {K : PySem.W.Frag} {H : Hp} {q : Addr} {xs : List V} {n : Nat} (nq : H q = none) (hn : xs.length ≤ n) (h : ∀ x ∈ xs, BadL K H x) : RowsAt K (upd H q (.lst xs)) q n :=
  ⟨xs, upd_same, hn, fun x hx => (h x hx).same (wo_of nq (same_upd nq))⟩
theorem zeros (n : Nat) : (List.replicate n [V.int 0]).flatten = (List.replicate n (0 : Int)).map V.int := by
  induction n with
  | zero => rfl
  | succ n ih => rw [List.replicate_succ, List.flatten_cons, ih]; rfl
theorem badL_one {K : PySem.W.Frag} {H : Hp} {a : Addr} {ns ms : List Int} {xs : List V} {y : V} (h : H a = some (.lst xs)) (e : xs = ns.map V.int ++ [y] ++ ms.map V.int) (hy : TyIn H y notInt) : BadL K H (.ref a) :=
  badL_mix (ns := ns) (ms := ms) (.inl (.inl (by rw [h, e]))) hy
theorem ints_no {xs : List Int} {i : Nat} {z : Int} (h1 : xs[i]? = some z) (h2 : xs[i + 1]? = some z) : xs = [] ∨ ∃ (i : Nat) (z : Int), xs[i]? = some z ∧ xs[i + 1]? = some z := .inr ⟨i, z, h1, h2⟩
section
variable {P : Program} {w : World} {K : PySem.W.Frag} {mg : Str → Option Value} {base : Heap} {Ts : List Addr}
def spRr (K : PySem.W.Frag) (Ts : List Addr) : Sp := fun vs H Q _ => ∃ (a : Addr) (ns : List Int) (du : Addr) (far : Int), vs = [.ref a, .ref du, .int far] ∧ SqL K H a (ns.map V.int) ∧ ClAt K H a (ns.map V.int) ∧ ns.length ≤ 63 ∧ 0 ≤ far ∧
  SqL K H du ((flags 3).map V.bl) ∧ TabsG H Ts ∧ ∀ H', SameT Ts H H' → TabsG H' Ts → Q (.bl true) H'
theorem ok_rr {c : Cs} {k : Nat} {S : Addr → (List V → Hp → Addr → Prop) → Prop} {f fA fW : Addr} {fd fdA : FuncData} (F : Fun K "_law_rows_right" "_law_rows_right" sRr f fd) (N : Nm mg)
    (FA : Fun K "_law_all" "_law_all" sAl fA fdA) (bA : Binds K fdA ["_law_ask", "_law_doors", "_law_things", "_law_due"] []) (gA : mg "_law_all" = some (.ref fA)) (GA : FnOk P w K mg base CX0 k fA fdA ["_law_ask", "_law_doors", "_law_things", "_law_due"] (spAl K c Ts S))
    (gW : mg "_law_with_row" = some (.ref fW)) (hW : S fW (cdWr K c.r)) (eR : Err1 K c c.r 3) (em : PySem.W.exmOne K (.ref c.r) (.ref c.e) = some true) :
    FnOk P w K mg base CX0 (k + 1) f fd ["_law_script", "_law_due", "_law_far_here"] (spRr K Ts) := by
  refine F.ok scRr (fun vs H Q E h => ?_) (fun cdv A outer s H vs Q E hr h => ?_)
  · obtain ⟨a, ns, du, far, rfl, _⟩ := h
    rfl
  · obtain ⟨a, ns, du, far, rfl, hS, hSc, hn, hf0, hdu, t, q⟩ := h
    have nd := scRr.nd
    refine ⟨_, (pss_mid (ps_set (i := 3) nd rfl (.inl rfl) (pe_lst (pa_cons pe_non (pa_cons (pe_tup pa_nil) (pa_cons (pe_tup (pa_cons pe_int (pa_cons pe_int pa_nil))) (pa_cons pe_str (pa_cons pe_dnewK (pa_cons pe_int (pa_cons (pe_lst (pa_cons pe_non pa_nil)) (pa_cons (pe_lst (pa_cons pe_str pa_nil)) (pa_cons (pe_lst (pa_cons pe_bl pa_nil)) (pa_cons (pe_lst (pa_cons (pe_lst (pa_cons pe_int pa_nil)) pa_nil)) (pa_cons (pe_lst (pa_cons pe_int (pa_cons pe_non pa_nil))) (pa_cons (pe_lst (pa_cons pe_int (pa_cons pe_bl (pa_cons pe_int pa_nil)))) (pa_cons (pe_op op_catR (pe_callTy call_list_of (by rfl) N.list (by decide +kernel) (pa_cons (pv 0) pa_nil)) (pe_lst (pa_cons pe_str pa_nil))) pa_nil)))))))))))))))
      (pss_mid (ps_set (i := 3) nd rfl (.inl rfl) (pe_op op_catR (pv 3) (pe_lst (pa_cons (pe_op op_catR (pe_op op_rep (pe_lst (pa_cons pe_int pa_nil)) (pe_op op_mod (pv 2) pe_int)) (pe_lst (pa_cons pe_non pa_nil))) (pa_cons (pe_lst (pa_cons pe_int (pa_cons pe_int (pa_cons (pe_tup (pa_cons pe_int pa_nil)) pa_nil)))) pa_nil)))))
      (pss_mid (ps_for PassesOwn.never rfl (pi_range3 (by rfl) N.range (pa_cons pe_int (pa_cons (pe_callB call_len_seq (by rfl) N.len PySem.boot_len (pa_cons (pv 0) pa_nil)) (pa_cons (pe_op op_add pe_int (pe_op op_fdiv (pe_callB call_len_seq (by rfl) N.len PySem.boot_len (pa_cons (pv 0) pa_nil)) pe_int)) pa_nil)))) (pg_name (i := 4) nd rfl (.inl rfl)) (pss_one (ps_expr (pe_bm PySem.F.plainAttrs_list PySem.F.slot_list_append PySem.F.type_list_append mt_append (pv 3) (pa_cons (pe_op op_catR (pe_op op_catR (pe_callTy call_list_of (by rfl) N.list (by decide +kernel) (pa_cons (pe_slice sl_list (pv 0) po_none (po_some (pv 4))) pa_nil)) (pe_lst (pa_cons (pe_ix ix_tup (pe_tup (pa_cons pe_non (pa_cons pe_str (pa_cons pe_bl (pa_cons (pe_lst (pa_cons pe_int pa_nil)) pa_nil))))) (pe_op op_mod (pv 4) pe_int) (fun _ _ => rfl)) pa_nil))) (pe_callTy call_list_of (by rfl) N.list (by decide +kernel) (pa_cons (pe_slice sl_list (pv 0) (po_some (pv 4)) po_none) pa_nil))) pa_nil)))))
      (pss_mid (ps_if (pt_not (pt_val (pe_call GA hr (by rfl) gA FA.kp bA .nil pass0 (pa_cons (pe_glob (v := .ref fW) (by rfl) gW rfl) (pa_cons (pe_lst (pa_cons pe_int (pa_cons pe_int pa_nil))) (pa_cons (pv 3) (pa_cons (pv 1) pa_nil))))))) (pss_one ps_never) pss_nil)
      (pss_one (ps_ret (pe_call GA hr (by rfl) gA FA.kp bA .nil pass0 (pa_cons (pe_glob (v := .ref fW) (by rfl) gW rfl) (pa_cons (pe_lst (pa_cons pe_int pa_nil)) (pa_cons (pe_lst (pa_cons (pe_lst pa_nil) (pa_cons (pe_lst (pa_cons pe_int (pa_cons pe_int pa_nil))) (pa_cons (pe_lst (pa_cons (pv 2) (pa_cons (pv 2) pa_nil))) (pa_cons (pe_lst (pa_cons pe_int (pa_cons pe_int (pa_cons pe_int (pa_cons pe_int pa_nil))))) (pa_cons (pe_op op_catC (pe_callTy call_listC (by rfl) N.list (by decide +kernel) (pa_cons (pv 0) pa_nil)) (pe_lst (pa_cons pe_int (pa_cons pe_int pa_nil)))) pa_nil)))))) (pa_cons (pv 1) pa_nil))))))))))), ?_⟩
    have hsm : (2000 : Nat) ≤ sizeLine := by decide
    refine ⟨fun σ' H' => ∃ q v4, σ' = [some (.ref a), some (.ref du), some (.int far), some (.ref q), v4] ∧ Same H H' ∧ H q = none ∧ RowsAt K H' q 13, ?_, fun σ1 H1 hM => ?_⟩
    · generalize hG : H = G1 at hS ⊢
      have sc : Same G1 G1 := same_refl
      refine ⟨(show 0 ≤ sizeLine by decide), fun r1 n1 => ?_⟩
      have u1 := same_upd (o := .tup []) n1
      have e1 : upd G1 r1 (.tup []) r1 = some (.tup []) := upd_same
      generalize upd G1 r1 (.tup []) = G2 at u1 e1 ⊢
      replace hS := u1.seq hS
      replace sc := Same.trans sc u1
      have b1 : BadL K G2 (.ref r1) := badL_ty (n := "tuple") (by decide) (.tup e1)
      refine ⟨(show 2 ≤ sizeLine by decide), fun r2 n2 => ?_⟩
      have u2 := same_upd (o := .tup [.int 1, .int 2]) n2
      have e2 : upd G2 r2 (.tup [.int 1, .int 2]) r2 = some (.tup [.int 1, .int 2]) := upd_same
      generalize upd G2 r2 (.tup [.int 1, .int 2]) = G3 at u2 e2 ⊢
      replace hS := u2.seq hS
      replace sc := Same.trans sc u2
      replace b1 := BadL.same b1 u2
      have b2 : BadL K G3 (.ref r2) := badL_ty (n := "tuple") (by decide) (.tup e2)
      intro r3 n3
      have u3 := same_upd (o := .dK []) n3
      have e3 : upd G3 r3 (.dK []) r3 = some (.dK []) := upd_same
      generalize upd G3 r3 (.dK []) = G4 at u3 e3 ⊢
      replace hS := u3.seq hS
      replace sc := Same.trans sc u3
      replace b1 := BadL.same b1 u3
      replace b2 := BadL.same b2 u3
      have b3 : BadL K G4 (.ref r3) := badL_ty (n := "dict") (by decide) (.dK e3)
      refine ⟨(show 1 ≤ sizeLine by decide), fun r4 n4 => ?_⟩
      have u4 := same_upd (o := .lst [.non]) n4
      have e4 : upd G4 r4 (.lst [.non]) r4 = some (.lst [.non]) := upd_same
      generalize upd G4 r4 (.lst [.non]) = G5 at u4 e4 ⊢
      replace hS := u4.seq hS
      replace sc := Same.trans sc u4
      replace b1 := BadL.same b1 u4
      replace b2 := BadL.same b2 u4
      replace b3 := BadL.same b3 u4
      have b4 : BadL K G5 (.ref r4) := badL_one (ns := []) (ms := []) (y := .non) e4 rfl ⟨"NoneType", by decide, .non⟩
      refine ⟨(show 1 ≤ sizeLine by decide), fun r5 n5 => ?_⟩
      have u5 := same_upd (o := .lst [.str "1"]) n5
      have e5 : upd G5 r5 (.lst [.str "1"]) r5 = some (.lst [.str "1"]) := upd_same
      generalize upd G5 r5 (.lst [.str "1"]) = G6 at u5 e5 ⊢
      replace hS := u5.seq hS
      replace sc := Same.trans sc u5
      replace b1 := BadL.same b1 u5
      replace b2 := BadL.same b2 u5
      replace b3 := BadL.same b3 u5
      replace b4 := BadL.same b4 u5
      have b5 : BadL K G6 (.ref r5) := badL_one (ns := []) (ms := []) (y := .str "1") e5 rfl ⟨"str", by decide, .str _⟩
      refine ⟨(show 1 ≤ sizeLine by decide), fun r6 n6 => ?_⟩
      have u6 := same_upd (o := .lst [.bl true]) n6
      have e6 : upd G6 r6 (.lst [.bl true]) r6 = some (.lst [.bl true]) := upd_same
      generalize upd G6 r6 (.lst [.bl true]) = G7 at u6 e6 ⊢
      replace hS := u6.seq hS
      replace sc := Same.trans sc u6
      replace b1 := BadL.same b1 u6
      replace b2 := BadL.same b2 u6
      replace b3 := BadL.same b3 u6
      replace b4 := BadL.same b4 u6
      replace b5 := BadL.same b5 u6
      have b6 : BadL K G7 (.ref r6) := badL_one (ns := []) (ms := []) (y := .bl true) e6 rfl ⟨"bool", by decide, .bl true⟩
      refine ⟨(show 1 ≤ sizeLine by decide), fun r7 n7 => ?_⟩
      have u7 := same_upd (o := .lst [.int 1]) n7
      have e7 : upd G7 r7 (.lst [.int 1]) r7 = some (.lst [.int 1]) := upd_same
      generalize upd G7 r7 (.lst [.int 1]) = G8 at u7 e7 ⊢
      replace hS := u7.seq hS
      replace sc := Same.trans sc u7
      replace b1 := BadL.same b1 u7
      replace b2 := BadL.same b2 u7
      replace b3 := BadL.same b3 u7
      replace b4 := BadL.same b4 u7
      replace b5 := BadL.same b5 u7
      replace b6 := BadL.same b6 u7
      refine ⟨(show 1 ≤ sizeLine by decide), fun r8 n8 => ?_⟩
      have u8 := same_upd (o := .lst [.ref r7]) n8
      have e8 : upd G8 r8 (.lst [.ref r7]) r8 = some (.lst [.ref r7]) := upd_same
      generalize upd G8 r8 (.lst [.ref r7]) = G9 at u8 e8 ⊢
      replace hS := u8.seq hS
      replace sc := Same.trans sc u8
      replace b1 := BadL.same b1 u8
      replace b2 := BadL.same b2 u8
      replace b3 := BadL.same b3 u8
      replace b4 := BadL.same b4 u8
      replace b5 := BadL.same b5 u8
      replace b6 := BadL.same b6 u8
      replace e7 := u8 _ _ e7
      have b8 : BadL K G9 (.ref r8) := badL_one (ns := []) (ms := []) (y := .ref r7) e8 rfl ⟨"list", by decide, .lst e7⟩
      refine ⟨(show 2 ≤ sizeLine by decide), fun r9 n9 => ?_⟩
      have u9 := same_upd (o := .lst [.int 1, .non]) n9
      have e9 : upd G9 r9 (.lst [.int 1, .non]) r9 = some (.lst [.int 1, .non]) := upd_same
      generalize upd G9 r9 (.lst [.int 1, .non]) = G10 at u9 e9 ⊢
      replace hS := u9.seq hS
      replace sc := Same.trans sc u9
      replace b1 := BadL.same b1 u9
      replace b2 := BadL.same b2 u9
      replace b3 := BadL.same b3 u9
      replace b4 := BadL.same b4 u9
      replace b5 := BadL.same b5 u9
      replace b6 := BadL.same b6 u9
      replace b8 := BadL.same b8 u9
      have b9 : BadL K G10 (.ref r9) := badL_one (ns := [1]) (ms := []) (y := .non) e9 rfl ⟨"NoneType", by decide, .non⟩
      refine ⟨(show 3 ≤ sizeLine by decide), fun r10 n10 => ?_⟩
      have u10 := same_upd (o := .lst [.int 1, .bl true, .int 2]) n10
      have e10 : upd G10 r10 (.lst [.int 1, .bl true, .int 2]) r10 = some (.lst [.int 1, .bl true, .int 2]) := upd_same
      generalize upd G10 r10 (.lst [.int 1, .bl true, .int 2]) = G11 at u10 e10 ⊢
      replace hS := u10.seq hS
      replace sc := Same.trans sc u10
      replace b1 := BadL.same b1 u10
      replace b2 := BadL.same b2 u10
      replace b3 := BadL.same b3 u10
      replace b4 := BadL.same b4 u10
      replace b5 := BadL.same b5 u10
      replace b6 := BadL.same b6 u10
      replace b8 := BadL.same b8 u10
      replace b9 := BadL.same b9 u10
      have b10 : BadL K G11 (.ref r10) := badL_one (ns := [1]) (ms := [2]) (y := .bl true) e10 rfl ⟨"bool", by decide, .bl true⟩
      refine ⟨_, rfl, a, _, rfl, .inl hS, fun r11 n11 => ?_⟩
      have u11 := same_upd (o := .lst (ns.map V.int)) n11
      have e11 : upd G11 r11 (.lst (ns.map V.int)) r11 = some (.lst (ns.map V.int)) := upd_same
      generalize upd G11 r11 (.lst (ns.map V.int)) = G12 at u11 e11 ⊢
      replace hS := u11.seq hS
      replace sc := Same.trans sc u11
      replace b1 := BadL.same b1 u11
      replace b2 := BadL.same b2 u11
      replace b3 := BadL.same b3 u11
      replace b4 := BadL.same b4 u11
      replace b5 := BadL.same b5 u11
      replace b6 := BadL.same b6 u11
      replace b8 := BadL.same b8 u11
      replace b9 := BadL.same b9 u11
      replace b10 := BadL.same b10 u11
      refine ⟨(show 1 ≤ sizeLine by decide), fun r12 n12 => ?_⟩
      have u12 := same_upd (o := .lst [.str "1"]) n12
      have e12 : upd G12 r12 (.lst [.str "1"]) r12 = some (.lst [.str "1"]) := upd_same
      generalize upd G12 r12 (.lst [.str "1"]) = G13 at u12 e12 ⊢
      replace hS := u12.seq hS
      replace sc := Same.trans sc u12
      replace b1 := BadL.same b1 u12
      replace b2 := BadL.same b2 u12
      replace b3 := BadL.same b3 u12
      replace b4 := BadL.same b4 u12
      replace b5 := BadL.same b5 u12
      replace b6 := BadL.same b6 u12
      replace b8 := BadL.same b8 u12
      replace b9 := BadL.same b9 u12
      replace b10 := BadL.same b10 u12
      replace e11 := u12 _ _ e11
      refine ⟨r11, r12, _, _, rfl, rfl, .inl e11, .inl e12, ?_, fun r13 n13 => ?_⟩
      · rw [List.length_map]
        exact Nat.le_trans (show ns.length + 1 ≤ 2000 by omega) hsm
      have u13 := same_upd (o := .lst (ns.map V.int ++ [.str "1"])) n13
      have e13 : upd G13 r13 (.lst (ns.map V.int ++ [.str "1"])) r13 = some (.lst (ns.map V.int ++ [.str "1"])) := upd_same
      generalize upd G13 r13 (.lst (ns.map V.int ++ [.str "1"])) = G14 at u13 e13 ⊢
      replace hS := u13.seq hS
      replace sc := Same.trans sc u13
      replace b1 := BadL.same b1 u13
      replace b2 := BadL.same b2 u13
      replace b3 := BadL.same b3 u13
      replace b4 := BadL.same b4 u13
      replace b5 := BadL.same b5 u13
      replace b6 := BadL.same b6 u13
      replace b8 := BadL.same b8 u13
      replace b9 := BadL.same b9 u13
      replace b10 := BadL.same b10 u13
      have b13 : BadL K G14 (.ref r13) := badL_one (ns := ns) (ms := []) (y := .str "1") e13 (by simp) ⟨"str", by decide, .str _⟩
      refine ⟨(show 13 ≤ sizeLine by decide), fun r14 n14 => ?_⟩
      refine ⟨r14, none, rfl, sc.trans (same_upd n14), sc.free n14, .new n14 (Nat.le_refl 13) fun x hx => ?_⟩
      simp only [List.mem_cons, List.not_mem_nil, or_false] at hx
      rcases hx with rfl | rfl | rfl | rfl | rfl | rfl | rfl | rfl | rfl | rfl | rfl | rfl | rfl
      · exact badL_ty (n := "NoneType") (by decide) .non
      · exact b1
      · exact b2
      · exact badL_ty (n := "str") (by decide) (.str _)
      · exact b3
      · exact badL_ty (n := "int") (by decide) (.int _)
      · exact b4
      · exact b5
      · exact b6
      · exact b8
      · exact b9
      · exact b10
      · exact b13
    obtain ⟨q0, v4, rfl, S1, nq, xs, eq0, xl, xb⟩ := hM
    replace xb := fun x hx => BadL.same (xb x hx) wo_same
    refine ⟨fun σ' H' => ∃ q v4, σ' = [some (.ref a), some (.ref du), some (.int far), some (.ref q), v4] ∧ Same H H' ∧ H q = none ∧ RowsAt K H' q 15, ?_, fun σ2 H2 hM => ?_⟩
    · generalize hG : H1 = G1 at eq0 xb S1 ⊢
      have sc : Same G1 G1 := same_refl
      refine ⟨_, rfl, (show 1 ≤ sizeLine by decide), fun r1 n1 => ?_⟩
      have u1 := same_upd (o := .lst [.int 0]) n1
      have e1 : upd G1 r1 (.lst [.int 0]) r1 = some (.lst [.int 0]) := upd_same
      generalize upd G1 r1 (.lst [.int 0]) = G2 at u1 e1 ⊢
      replace eq0 := u1 _ _ eq0
      replace xb := fun x hx => BadL.same (xb x hx) u1
      replace sc := Same.trans sc u1
      refine ⟨_, rfl, _, _, rfl, rfl, (show (0 : Int) < 9 by decide), r1, _, _, rfl, rfl, e1, by omega, by omega, ?_, fun r2 n2 => ?_⟩
      · exact Nat.le_trans (show 1 * (far % 9).toNat ≤ 2000 by omega) hsm
      rw [zeros] at *
      have u2 := same_upd (o := .lst ((List.replicate (far % 9).toNat (0 : Int)).map V.int)) n2
      have e2 : upd G2 r2 (.lst ((List.replicate (far % 9).toNat (0 : Int)).map V.int)) r2 = some (.lst ((List.replicate (far % 9).toNat (0 : Int)).map V.int)) := upd_same
      generalize upd G2 r2 (.lst ((List.replicate (far % 9).toNat (0 : Int)).map V.int)) = G3 at u2 e2 ⊢
      replace eq0 := u2 _ _ eq0
      replace xb := fun x hx => BadL.same (xb x hx) u2
      replace sc := Same.trans sc u2
      refine ⟨(show 1 ≤ sizeLine by decide), fun r3 n3 => ?_⟩
      have u3 := same_upd (o := .lst [.non]) n3
      have e3 : upd G3 r3 (.lst [.non]) r3 = some (.lst [.non]) := upd_same
      generalize upd G3 r3 (.lst [.non]) = G4 at u3 e3 ⊢
      replace eq0 := u3 _ _ eq0
      replace xb := fun x hx => BadL.same (xb x hx) u3
      replace sc := Same.trans sc u3
      replace e2 := u3 _ _ e2
      refine ⟨r2, r3, _, _, rfl, rfl, .inl e2, .inl e3, ?_, fun r4 n4 => ?_⟩
      · rw [List.length_map, List.length_replicate]
        exact Nat.le_trans (show (far % 9).toNat + 1 ≤ 2000 by omega) hsm
      have u4 := same_upd (o := .lst ((List.replicate (far % 9).toNat (0 : Int)).map V.int ++ [.non])) n4
      have e4 : upd G4 r4 (.lst ((List.replicate (far % 9).toNat (0 : Int)).map V.int ++ [.non])) r4 = some (.lst ((List.replicate (far % 9).toNat (0 : Int)).map V.int ++ [.non])) := upd_same
      generalize upd G4 r4 (.lst ((List.replicate (far % 9).toNat (0 : Int)).map V.int ++ [.non])) = G5 at u4 e4 ⊢
      replace eq0 := u4 _ _ eq0
      replace xb := fun x hx => BadL.same (xb x hx) u4
      replace sc := Same.trans sc u4
      have b4 : BadL K G5 (.ref r4) := badL_one (ns := List.replicate (far % 9).toNat 0) (ms := []) (y := .non) e4 (by simp) ⟨"NoneType", by decide, .non⟩
      refine ⟨(show 1 ≤ sizeLine by decide), fun r5 n5 => ?_⟩
      have u5 := same_upd (o := .tup [.int 3]) n5
      have e5 : upd G5 r5 (.tup [.int 3]) r5 = some (.tup [.int 3]) := upd_same
      generalize upd G5 r5 (.tup [.int 3]) = G6 at u5 e5 ⊢
      replace eq0 := u5 _ _ eq0
      replace xb := fun x hx => BadL.same (xb x hx) u5
      replace sc := Same.trans sc u5
      replace b4 := BadL.same b4 u5
      refine ⟨(show 3 ≤ sizeLine by decide), fun r6 n6 => ?_⟩
      have u6 := same_upd (o := .lst [.int 1, .int 2, .ref r5]) n6
      have e6 : upd G6 r6 (.lst [.int 1, .int 2, .ref r5]) r6 = some (.lst [.int 1, .int 2, .ref r5]) := upd_same
      generalize upd G6 r6 (.lst [.int 1, .int 2, .ref r5]) = G7 at u6 e6 ⊢
      replace eq0 := u6 _ _ eq0
      replace xb := fun x hx => BadL.same (xb x hx) u6
      replace sc := Same.trans sc u6
      replace b4 := BadL.same b4 u6
      replace e5 := u6 _ _ e5
      have b6 : BadL K G7 (.ref r6) := badL_one (ns := [1, 2]) (ms := []) (y := .ref r5) e6 rfl ⟨"tuple", by decide, .tup e5⟩
      refine ⟨(show 2 ≤ sizeLine by decide), fun r7 n7 => ?_⟩
      have u7 := same_upd (o := .lst [.ref r4, .ref r6]) n7
      have e7 : upd G7 r7 (.lst [.ref r4, .ref r6]) r7 = some (.lst [.ref r4, .ref r6]) := upd_same
      generalize upd G7 r7 (.lst [.ref r4, .ref r6]) = G8 at u7 e7 ⊢
      replace eq0 := u7 _ _ eq0
      replace xb := fun x hx => BadL.same (xb x hx) u7
      replace sc := Same.trans sc u7
      replace b4 := BadL.same b4 u7
      replace b6 := BadL.same b6 u7
      refine ⟨q0, r7, _, _, rfl, rfl, .inl eq0, .inl e7, Nat.le_trans (show xs.length + 2 ≤ 2000 by omega) hsm, fun r8 n8 => ?_⟩
      refine ⟨r8, _, rfl, S1.trans (sc.trans (same_upd n8)), S1.free (sc.free n8), .new n8 (by rw [List.length_append]; show xs.length + 2 ≤ 15; omega) fun x hx => ?_⟩
      rcases List.mem_append.mp hx with hx | hx
      · exact xb x hx
      simp only [List.mem_cons, List.not_mem_nil, or_false] at hx
      rcases hx with rfl | rfl
      · exact b4
      · exact b6
    obtain ⟨q0, v4, rfl, S2, nq, WA⟩ := hM
    refine ⟨fun σ' H' => ∃ v4, σ' = [some (.ref a), some (.ref du), some (.int far), some (.ref q0), v4] ∧ Same H H' ∧ RowsAt K H' q0 115, ?_, fun σ3 H3 hM => ?_⟩
    · obtain ⟨g1, g2, g3⟩ := rg_ok (m := ns.length) (by omega)
      have el : ((ns.map V.int).length : Int) = (ns.length : Int) := by rw [List.length_map]
      refine ⟨_, rfl, a, _, rfl, .inl (S2.seq hS), _, rfl, a, _, rfl, .inl (S2.seq hS), _, _, rfl, rfl, (show CDiv _ 6 from ⟨by decide, by decide⟩), _, _, rfl, rfl, 0, _, _, rgN ns.length, rfl, by rw [el]; exact g1, for_rangeC (fun i σ' H' => ∃ v4, σ' = [some (.ref a), some (.ref du), some (.int far), some (.ref q0), v4] ∧ Same H H' ∧ RowsAt K H' q0 (15 + i)) ⟨_, rfl, S2, WA⟩ (fun i σ G1 hi hW => ?_) (fun σ G1 hW => ?_)⟩
      · obtain ⟨v4, rfl, S3, xs, eq0, xl, xb⟩ := hW
        obtain ⟨k0, ek, hk⟩ := g3 i hi
        have hS1 := S3.seq hS
        have xb0 := xb
        have sc : Same G1 G1 := same_refl
        rw [el, ek]
        refine ⟨_, rfl, .inl ⟨rfl, _, .inl (.inl eq0)⟩, ?_⟩
        refine ⟨_, rfl, _, rfl, _, rfl, a, _, rfl, hS1, fun r1 n1 => ?_⟩
        rw [cut_take, ← List.map_take] at *
        have u1 := same_upd (o := .lst ((ns.take k0).map V.int)) n1
        have e1 : upd G1 r1 (.lst ((ns.take k0).map V.int)) r1 = some (.lst ((ns.take k0).map V.int)) := upd_same
        generalize upd G1 r1 (.lst ((ns.take k0).map V.int)) = G2 at u1 e1 ⊢
        replace hS1 := u1.seq hS1
        replace eq0 := u1 _ _ eq0
        replace sc := Same.trans sc u1
        refine ⟨r1, _, rfl, .inl (.inl (.inl e1)), fun r2 n2 => ?_⟩
        have u2 := same_upd (o := .lst ((ns.take k0).map V.int)) n2
        have e2 : upd G2 r2 (.lst ((ns.take k0).map V.int)) r2 = some (.lst ((ns.take k0).map V.int)) := upd_same
        generalize upd G2 r2 (.lst ((ns.take k0).map V.int)) = G3 at u2 e2 ⊢
        replace hS1 := u2.seq hS1
        replace eq0 := u2 _ _ eq0
        replace sc := Same.trans sc u2
        refine ⟨(show 1 ≤ sizeLine by decide), fun r3 n3 => ?_⟩
        have n3q : r3 ≠ q0 := (ne_of_none eq0 n3).symm
        have u3 := same_upd (o := .lst [.int 1]) n3
        have e3 : upd G3 r3 (.lst [.int 1]) r3 = some (.lst [.int 1]) := upd_same
        generalize upd G3 r3 (.lst [.int 1]) = G4 at u3 e3 ⊢
        replace hS1 := u3.seq hS1
        replace eq0 := u3 _ _ eq0
        replace sc := Same.trans sc u3
        replace e2 := u3 _ _ e2
        refine ⟨(show 4 ≤ sizeLine by decide), fun r4 n4 => ?_⟩
        have u4 := same_upd (o := .tup [V.non, V.str "1", V.bl true, V.ref r3]) n4
        have e4 : upd G4 r4 (.tup [V.non, V.str "1", V.bl true, V.ref r3]) r4 = some (.tup [V.non, V.str "1", V.bl true, V.ref r3]) := upd_same
        generalize upd G4 r4 (.tup [V.non, V.str "1", V.bl true, V.ref r3]) = G5 at u4 e4 ⊢
        replace hS1 := u4.seq hS1
        replace eq0 := u4 _ _ eq0
        replace sc := Same.trans sc u4
        replace e2 := u4 _ _ e2
        replace e3 := u4 _ _ e3
        obtain ⟨v, hv, hbad⟩ : ∃ v, atI [V.non, V.str "1", V.bl true, V.ref r3] ((k0 : Int) % 4) = some v ∧ TyIn (wo G5 q0) v notInt := by
          have h4 : k0 % 4 = 0 ∨ k0 % 4 = 1 ∨ k0 % 4 = 2 ∨ k0 % 4 = 3 := by omega
          have ec : (k0 : Int) % 4 = ((k0 % 4 : Nat) : Int) := by omega
          rw [ec]
          rcases h4 with h | h | h | h <;> rw [h]
          · exact ⟨.non, rfl, "NoneType", by decide, .non⟩
          · exact ⟨.str "1", rfl, "str", by decide, .str _⟩
          · exact ⟨.bl true, rfl, "bool", by decide, .bl true⟩
          · exact ⟨.ref r3, rfl, "list", by decide, .lst ((wo_at n3q).trans e3)⟩
        have sd : Same G5 G5 := same_refl
        refine ⟨_, rfl, _, _, rfl, rfl, (show (0 : Int) < 4 by decide), r4, _, _, v, rfl, rfl, SqT.of e4, hv, (show 1 ≤ sizeLine by decide), fun r5 n5 => ?_⟩
        have u5 := same_upd (o := .lst [v]) n5
        have e5 : upd G5 r5 (.lst [v]) r5 = some (.lst [v]) := upd_same
        generalize upd G5 r5 (.lst [v]) = G6 at u5 e5 ⊢
        replace hS1 := u5.seq hS1
        replace eq0 := u5 _ _ eq0
        replace sc := Same.trans sc u5
        replace e2 := u5 _ _ e2
        replace sd := Same.trans sd u5
        refine ⟨r2, r5, _, _, rfl, rfl, .inl e2, .inl e5, ?_, fun r6 n6 => ?_⟩
        · rw [List.length_map, List.length_take]
          exact Nat.le_trans (show min k0 ns.length + 1 ≤ 2000 by omega) hsm
        have u6 := same_upd (o := .lst ((ns.take k0).map V.int ++ [v])) n6
        have e6 : upd G6 r6 (.lst ((ns.take k0).map V.int ++ [v])) r6 = some (.lst ((ns.take k0).map V.int ++ [v])) := upd_same
        generalize upd G6 r6 (.lst ((ns.take k0).map V.int ++ [v])) = G7 at u6 e6 ⊢
        replace hS1 := u6.seq hS1
        replace eq0 := u6 _ _ eq0
        replace sc := Same.trans sc u6
        replace sd := Same.trans sd u6
        refine ⟨_, rfl, _, rfl, _, rfl, a, _, rfl, hS1, fun r7 n7 => ?_⟩
        rw [cut_drop, ← List.map_drop] at *
        have u7 := same_upd (o := .lst ((ns.drop k0).map V.int)) n7
        have e7 : upd G7 r7 (.lst ((ns.drop k0).map V.int)) r7 = some (.lst ((ns.drop k0).map V.int)) := upd_same
        generalize upd G7 r7 (.lst ((ns.drop k0).map V.int)) = G8 at u7 e7 ⊢
        replace hS1 := u7.seq hS1
        replace eq0 := u7 _ _ eq0
        replace sc := Same.trans sc u7
        replace sd := Same.trans sd u7
        replace e6 := u7 _ _ e6
        refine ⟨r7, _, rfl, .inl (.inl (.inl e7)), fun r8 n8 => ?_⟩
        have u8 := same_upd (o := .lst ((ns.drop k0).map V.int)) n8
        have e8 : upd G8 r8 (.lst ((ns.drop k0).map V.int)) r8 = some (.lst ((ns.drop k0).map V.int)) := upd_same
        generalize upd G8 r8 (.lst ((ns.drop k0).map V.int)) = G9 at u8 e8 ⊢
        replace hS1 := u8.seq hS1
        replace eq0 := u8 _ _ eq0
        replace sc := Same.trans sc u8
        replace sd := Same.trans sd u8
        replace e6 := u8 _ _ e6
        refine ⟨r6, r8, _, _, rfl, rfl, .inl e6, .inl e8, ?_, fun r9 n9 => ?_⟩
        · rw [List.length_append, List.length_map, List.length_take, List.length_map, List.length_drop]
          exact Nat.le_trans (show min k0 ns.length + 1 + (ns.length - k0) ≤ 2000 by omega) hsm
        have n9q : r9 ≠ q0 := (ne_of_none eq0 n9).symm
        have u9 := same_upd (o := .lst ((ns.take k0).map V.int ++ [v] ++ (ns.drop k0).map V.int)) n9
        have e9 : upd G9 r9 (.lst ((ns.take k0).map V.int ++ [v] ++ (ns.drop k0).map V.int)) r9 = some (.lst ((ns.take k0).map V.int ++ [v] ++ (ns.drop k0).map V.int)) := upd_same
        generalize upd G9 r9 (.lst ((ns.take k0).map V.int ++ [v] ++ (ns.drop k0).map V.int)) = G10 at u9 e9 ⊢
        replace hS1 := u9.seq hS1
        replace eq0 := u9 _ _ eq0
        replace sc := Same.trans sc u9
        replace sd := Same.trans sd u9
        have d : BadL K (wo G10 q0) (.ref r9) := badL_mix (ns := ns.take k0) (ms := ns.drop k0) (.inl (.inl ((wo_at n9q).trans e9))) (hbad.same (wo_wo sd))
        refine ⟨q0, xs, _, rfl, rfl, eq0, Nat.lt_of_lt_of_le (show xs.length < 2000 by omega) hsm, _, rfl, fun b0 u0 e0 => ?_, xs ++ [.ref r9], upd_same, by rw [List.length_append]; show xs.length + 1 ≤ 15 + (i + 1); omega, fun x hx => ?_⟩
        · rw [upd_ne (ne_of_none e0 nq)]
          exact sc _ _ (S3 _ _ e0)
        · rw [wo_upd]
          rcases List.mem_append.mp hx with hx | hx
          · exact (xb0 x hx).same (wo_wo sc)
          · rw [List.mem_singleton.mp hx]
            exact d
      · obtain ⟨v4, rfl, S3, xs, eq0, xl, xb⟩ := hW
        exact ⟨_, rfl, S3, xs, eq0, by omega, xb⟩
    obtain ⟨v4, rfl, S3, xs, eq0, xl, xb⟩ := hM
    have xb3 : ∀ x ∈ xs, BadL K H3 x := fun x hx => (xb x hx).same wo_same
    have T3 := t.same S3
    refine ⟨fun σ' H' => ∃ v4, σ' = [some (.ref a), some (.ref du), some (.int far), some (.ref q0), v4] ∧ SameT Ts H H' ∧ TabsG H' Ts, ?_, fun σ4 H4 hM => ?_⟩
    · refine ⟨(show 2 ≤ sizeLine by decide), fun r1 n1 => ?_⟩
      have u1 := same_upd (o := .lst [.int 0, .int 1]) n1
      refine ⟨_, rfl, _, rfl, fW, r1, q0, du, [0, 1], xs, cdWr K c.r, c.r, 3, rfl, hW, .inl (.inl upd_same), .inl (.inl (u1 _ _ eq0)), (S3.trans u1).seq hdu, by omega, eR, em, T3.same u1, fun d hd x hx H' s' t' => ?_, fun H' s' t' => ?_⟩
      · have bx : BadL K H' x := ((xb3 x hx).same u1).tabs (T3.same u1) s'
        simp only [List.mem_cons, List.not_mem_nil, or_false] at hd
        rcases hd with rfl | rfl
        · exact ⟨0, x, rfl, .inl ⟨rfl, bx⟩, rfl⟩
        · exact ⟨1, x, rfl, .inr ⟨by decide, .inl bx⟩, rfl⟩
      · exact ⟨_, rfl, iteF ⟨_, rfl, (sameT (S3.trans u1)).trans s', t'⟩⟩
    obtain ⟨v4, rfl, S4, T4⟩ := hM
    have hS4 := sq_tabs t S4 hS
    have hC4 := cl_tabs t S4 hSc
    have hdu4 := sq_tabs t S4 hdu
    generalize hG : H4 = G1 at hS4 hC4 hdu4 S4 T4 ⊢
    have sc : Same G1 G1 := same_refl
    refine ⟨(show 1 ≤ sizeLine by decide), fun r1 n1 => ?_⟩
    have u1 := same_upd (o := .lst [.int 1]) n1
    have e1 : upd G1 r1 (.lst [.int 1]) r1 = some (.lst [.int 1]) := upd_same
    generalize upd G1 r1 (.lst [.int 1]) = G2 at u1 e1 ⊢
    replace hS4 := u1.seq hS4
    replace hC4 := clAt_same hC4 u1
    replace sc := Same.trans sc u1
    refine ⟨Nat.zero_le _, fun r2 n2 => ?_⟩
    have u2 := same_upd (o := .lst []) n2
    have e2 : upd G2 r2 (.lst []) r2 = some (.lst []) := upd_same
    generalize upd G2 r2 (.lst []) = G3 at u2 e2 ⊢
    replace hS4 := u2.seq hS4
    replace hC4 := clAt_same hC4 u2
    replace sc := Same.trans sc u2
    replace e1 := u2 _ _ e1
    refine ⟨(show 2 ≤ sizeLine by decide), fun r3 n3 => ?_⟩
    have u3 := same_upd (o := .lst [.int 1, .int 1]) n3
    have e3 : upd G3 r3 (.lst [.int 1, .int 1]) r3 = some (.lst [.int 1, .int 1]) := upd_same
    generalize upd G3 r3 (.lst [.int 1, .int 1]) = G4 at u3 e3 ⊢
    replace hS4 := u3.seq hS4
    replace hC4 := clAt_same hC4 u3
    replace sc := Same.trans sc u3
    replace e1 := u3 _ _ e1
    replace e2 := u3 _ _ e2
    refine ⟨_, rfl, _, rfl, (show 2 ≤ sizeLine by decide), fun r4 n4 => ?_⟩
    have u4 := same_upd (o := .lst [.int far, .int far]) n4
    have e4 : upd G4 r4 (.lst [.int far, .int far]) r4 = some (.lst [.int far, .int far]) := upd_same
    generalize upd G4 r4 (.lst [.int far, .int far]) = G5 at u4 e4 ⊢
    replace hS4 := u4.seq hS4
    replace hC4 := clAt_same hC4 u4
    replace sc := Same.trans sc u4
    replace e1 := u4 _ _ e1
    replace e2 := u4 _ _ e2
    replace e3 := u4 _ _ e3
    refine ⟨(show 4 ≤ sizeLine by decide), fun r5 n5 => ?_⟩
    have u5 := same_upd (o := .lst [.int 1, .int 2, .int 2, .int 3]) n5
    have e5 : upd G5 r5 (.lst [.int 1, .int 2, .int 2, .int 3]) r5 = some (.lst [.int 1, .int 2, .int 2, .int 3]) := upd_same
    generalize upd G5 r5 (.lst [.int 1, .int 2, .int 2, .int 3]) = G6 at u5 e5 ⊢
    replace hS4 := u5.seq hS4
    replace hC4 := clAt_same hC4 u5
    replace sc := Same.trans sc u5
    replace e1 := u5 _ _ e1
    replace e2 := u5 _ _ e2
    replace e3 := u5 _ _ e3
    replace e4 := u5 _ _ e4
    refine ⟨_, rfl, a, _, rfl, hS4, hC4, fun r6 o6 n6 _ c6 => ?_⟩
    have u6 := same_upd (o := .frz o6 (.lst (ns.map V.int))) n6
    have e6 : upd G6 r6 (.frz o6 (.lst (ns.map V.int))) r6 = some (.frz o6 (.lst (ns.map V.int))) := upd_same
    generalize upd G6 r6 (.frz o6 (.lst (ns.map V.int))) = G7 at u6 e6 ⊢
    replace hS4 := u6.seq hS4
    replace hC4 := clAt_same hC4 u6
    replace sc := Same.trans sc u6
    replace e1 := u6 _ _ e1
    replace e2 := u6 _ _ e2
    replace e3 := u6 _ _ e3
    replace e4 := u6 _ _ e4
    replace e5 := u6 _ _ e5
    refine ⟨(show 2 ≤ sizeLine by decide), fun r7 n7 => ?_⟩
    have u7 := same_upd (o := .lst [.int 7, .int 7]) n7
    have e7 : upd G7 r7 (.lst [.int 7, .int 7]) r7 = some (.lst [.int 7, .int 7]) := upd_same
    generalize upd G7 r7 (.lst [.int 7, .int 7]) = G8 at u7 e7 ⊢
    replace hS4 := u7.seq hS4
    replace hC4 := clAt_same hC4 u7
    replace sc := Same.trans sc u7
    replace e1 := u7 _ _ e1
    replace e2 := u7 _ _ e2
    replace e3 := u7 _ _ e3
    replace e4 := u7 _ _ e4
    replace e5 := u7 _ _ e5
    replace e6 := u7 _ _ e6
    refine ⟨r6, r7, _, _, rfl, rfl, .inr ⟨_, e6⟩, .inl ⟨_, .inl e6, c6⟩, .inl e7, .inr fun x hx z => ?_, ?_, fun r8 o8 n8 _ c8 => ?_⟩
    · rw [z] at hx
      simp at hx
    · rw [List.length_map]
      exact Nat.le_trans (show ns.length + 2 ≤ 2000 by omega) hsm
    have u8 := same_upd (o := .frz o8 (.lst (ns.map V.int ++ [.int 7, .int 7]))) n8
    have e8 : upd G8 r8 (.frz o8 (.lst (ns.map V.int ++ [.int 7, .int 7]))) r8 = some (.frz o8 (.lst (ns.map V.int ++ [.int 7, .int 7]))) := upd_same
    generalize upd G8 r8 (.frz o8 (.lst (ns.map V.int ++ [.int 7, .int 7]))) = G9 at u8 e8 ⊢
    replace hS4 := u8.seq hS4
    replace hC4 := clAt_same hC4 u8
    replace sc := Same.trans sc u8
    replace e1 := u8 _ _ e1
    replace e2 := u8 _ _ e2
    replace e3 := u8 _ _ e3
    replace e4 := u8 _ _ e4
    replace e5 := u8 _ _ e5
    replace e6 := u8 _ _ e6
    refine ⟨(show 5 ≤ sizeLine by decide), fun r9 n9 => ?_⟩
    have u9 := same_upd (o := .lst [.ref r2, .ref r3, .ref r4, .ref r5, .ref r8]) n9
    have e9 : upd G9 r9 (.lst [.ref r2, .ref r3, .ref r4, .ref r5, .ref r8]) r9 = some (.lst [.ref r2, .ref r3, .ref r4, .ref r5, .ref r8]) := upd_same
    generalize upd G9 r9 (.lst [.ref r2, .ref r3, .ref r4, .ref r5, .ref r8]) = G10 at u9 e9 ⊢
    replace hS4 := u9.seq hS4
    replace hC4 := clAt_same hC4 u9
    replace sc := Same.trans sc u9
    replace e1 := u9 _ _ e1
    replace e2 := u9 _ _ e2
    replace e3 := u9 _ _ e3
    replace e4 := u9 _ _ e4
    replace e5 := u9 _ _ e5
    replace e6 := u9 _ _ e6
    replace e8 := u9 _ _ e8
    refine ⟨_, rfl, fW, r1, r9, du, [1], _, cdWr K c.r, c.r, 3, rfl, hW, .inl (.inl e1), .inl (.inl e9), sc.seq hdu4, (show 5 ≤ 1000 by decide), eR, em, T4.same sc, fun d hd x hx H' s' t' => ?_, fun H' s' t' => q H' (S4.trans ((sameT sc).trans s')) t'⟩
    have T9 := T4.same sc
    rw [List.mem_singleton.mp hd]
    refine ⟨1, x, rfl, .inr ⟨by decide, .inr ?_⟩, rfl⟩
    have kp : ∀ (r : Addr) (o : HO), G10 r = some o → (∀ ps, o ≠ .tbl ps) → H' r = some o := fun r o e n => T9.keep s' e n
    simp only [List.mem_cons, List.not_mem_nil, or_false] at hx
    rcases hx with rfl | rfl | rfl | rfl | rfl
    · exact ⟨r2, [], rfl, .inl (.inl (kp _ _ e2 fun _ z => by cases z)), .inr fun i h1 h2 => absurd h2 (by show ¬ (i + 1 < 0); omega), by decide, .inl rfl⟩
    · exact ⟨r3, [1, 1], rfl, .inl (.inl (kp _ _ e3 fun _ z => by cases z)), .inr fun i h1 h2 => absurd h2 (by show ¬ (i + 1 < 2); omega), by decide, ints_no (i := 0) rfl rfl⟩
    · exact ⟨r4, [far, far], rfl, .inl (.inl (kp _ _ e4 fun _ z => by cases z)), .inr fun i h1 h2 => absurd h2 (by show ¬ (i + 1 < 2); omega), (show 2 ≤ 900 by decide), ints_no (i := 0) rfl rfl⟩
    · refine ⟨r5, [1, 2, 2, 3], rfl, .inl (.inl (kp _ _ e5 fun _ z => by cases z)), .inr fun i h1 h2 e => ?_, by decide, ints_no (i := 1) rfl rfl⟩
      have hi : i = 1 ∨ i = 2 := by
        have : i + 1 < 4 := h2
        omega
      rcases hi with rfl | rfl <;> cases e
    · have h8 := kp _ _ e8 fun _ z => by cases z
      have em2 : ns.map V.int ++ [.int 7, .int 7] = (ns ++ [7, 7]).map V.int := by rw [List.map_append]; rfl
      rw [em2] at h8
      refine ⟨r8, ns ++ [7, 7], rfl, .inl (.inr ⟨_, h8⟩), (show ClAt K H' r8 _ from .inl ⟨_, .inl h8, c8⟩).toI, by rw [List.length_append]; show ns.length + 2 ≤ 900; omega, ints_no (i := ns.length) (z := 7) ?_ ?_⟩
      · rw [List.getElem?_append_right (Nat.le_refl _), Nat.sub_self]; rfl
      · rw [List.getElem?_append_right (Nat.le_succ _), Nat.succ_sub (Nat.le_refl _), Nat.sub_self]; rfl
end
end K5
end
-- part K5L
section
set_option Elab.async false
set_option linter.all false
set_option maxRecDepth 100000
set_option maxHeartbeats 8000000
namespace K5
open PySem PySem.Spec PyProof.Rows L2 RFI K1 ZG CwR K2 RFX
abbrev nLaw : List Str := ["_law_script", "_law_far_here", "_law_due", "_law_k", "_law_word_here", "_law_many", "_law_bad", "_law_at", "_law_whole_here", "_law_number"]
theorem scLaw : FnScope nLaw ["_law_script"] (defScope sLaw) := ⟨rfl, rfl, rfl, by decide +kernel, rfl, by decide +kernel, by decide +kernel⟩
def spLaw (K : PySem.W.Frag) (Ts : List Addr) : Sp := fun vs H Q _ => ∃ (a : Addr) (ns : List Int), vs = [.ref a] ∧ SqL K H a (ns.map V.int) ∧ ClAt K H a (ns.map V.int) ∧ TabsG H Ts ∧ ns.length ≤ 63 ∧ ∀ H', Q (.bl true) H'
theorem odd_of (z : Str) (h : (decide (z.length ≤ 1000) && z.cps.toList.any (fun c => decide (c ≠ 117 ∧ c ≠ 100))) = true) : OddS z := by
  rw [Bool.and_eq_true] at h
  obtain ⟨c, h1, h2⟩ := List.any_eq_true.mp h.2
  exact ⟨of_decide_eq_true h.1, c, h1, of_decide_eq_true h2⟩
/-- a list of what is no word -/
def BadsAt (H : Hp) (q : Addr) (n : Nat) : Prop := ∃ xs, H q = some (.lst xs) ∧ xs.length ≤ n ∧ ∀ x ∈ xs, BadW (wo H q) x
theorem BadsAt.new {H : Hp} {q : Addr} {xs : List V} {n : Nat} (nq : H q = none) (hn : xs.length ≤ n) (h : ∀ x ∈ xs, BadW H x) : BadsAt (upd H q (.lst xs)) q n :=
  ⟨xs, upd_same, hn, fun x hx => (h x hx).same (wo_of nq (same_upd nq))⟩
theorem str_app_len (a b : Str) : (a ++ b).length = a.length + b.length := Array.size_append
theorem str_app_cps (a b : Str) : (a ++ b).cps.toList = a.cps.toList ++ b.cps.toList := Array.toList_append
theorem cutS_len (z : Str) (lo hi : Option Int) : (cutS z lo hi).length ≤ z.length := by
  have e : z.length = z.cps.toList.length := by rw [Array.length_toList]; rfl
  show (List.toArray _).size ≤ _
  rw [List.size_toArray, List.length_take, List.length_drop, e]
  omega
section
variable {P : Program} {w : World} {K : PySem.W.Frag} {mg : Str → Option Value} {base : Heap}
theorem ok_law {c : Cs} {Ts : List Addr} {S : Addr → (List V → Hp → Addr → Prop) → Prop} {f fW fC fL fN fF fT fA fG fR fQ fO fZ : Addr} {fd fdC fdL fdN fdF fdT fdA fdG fdR fdQ fdO fdZ : FuncData} (F : Fun K "law" "law" sLaw f fd) (N : Nm mg)
    (FC : Fun K "_law_cell_at" "_law_cell_at" sCa fC fdC) (GC : FnOk P w K mg base CX0 1 fC fdC ["_law_script", "_law_k"] (spCa K)) (bC : Binds K fdC ["_law_script", "_law_k"] []) (gC : mg "_law_cell_at" = some (.ref fC))
    (FL : Fun K "_law_word" "_law_word" sLw fL fdL) (GL : FnOk P w K mg base CX0 2 fL fdL ["_law_script"] (spLw K)) (bL : Binds K fdL ["_law_script"] []) (gL : mg "_law_word" = some (.ref fL))
    (FN : Fun K "_law_count" "_law_count" sLc fN fdN) (GN : FnOk P w K mg base CX0 1 fN fdN ["_law_word_here"] spLc) (bN : Binds K fdN ["_law_word_here"] []) (gN : mg "_law_count" = some (.ref fN))
    (FF : Fun K "_law_far" "_law_far" sFa fF fdF) (GF : FnOk P w K mg base CX0 2 fF fdF ["_law_script", "_law_by", "_law_most"] (spFa K)) (bF : Binds K fdF ["_law_script", "_law_by", "_law_most"] []) (gF : mg "_law_far" = some (.ref fF))
    (FT : Fun K "_law_told" "_law_told" sTo fT fdT) (GT : FnOk P w K mg base CX0 7 fT fdT ["_law_ask", "_law_one", "_law_other"] (spTo K c Ts S)) (bT : Binds K fdT ["_law_ask", "_law_one", "_law_other"] []) (gT : mg "_law_told" = some (.ref fT))
    (FA : Fun K "_law_all" "_law_all" sAl fA fdA) (GA : FnOk P w K mg base CX0 8 fA fdA ["_law_ask", "_law_doors", "_law_things", "_law_due"] (spAl K c Ts S)) (bA : Binds K fdA ["_law_ask", "_law_doors", "_law_things", "_law_due"] []) (gA : mg "_law_all" = some (.ref fA))
    (FG : Fun K "_law_orders_right" "_law_orders_right" sOg fG fdG) (GG : FnOk P w K mg base CX0 8 fG fdG ["_law_word_here", "_law_order", "_law_due", "_law_far_here"] (spOg K c Ts)) (bG : Binds K fdG ["_law_word_here", "_law_order", "_law_due", "_law_far_here"] []) (gG : mg "_law_orders_right" = some (.ref fG))
    (FR : Fun K "_law_rows_right" "_law_rows_right" sRr fR fdR) (GR : FnOk P w K mg base CX0 9 fR fdR ["_law_script", "_law_due", "_law_far_here"] (spRr K Ts)) (bR : Binds K fdR ["_law_script", "_law_due", "_law_far_here"] []) (gR : mg "_law_rows_right" = some (.ref fR))
    (FQ : Fun K "order_of" "order_of" sOf fQ fdQ) (GQ : FnOk P w K mg base CX0 4 fQ fdQ ["word", "number"] (spOf K)) (bQ : Binds K fdQ ["word", "number"] []) (gQ : mg "order_of" = some (.ref fQ))
    (FO : Fun K "word_of" "word_of" sWo fO fdO) (GO : FnOk P w K mg base CX0 3 fO fdO ["row"] (spWoT K Ts)) (bO : Binds K fdO ["row"] []) (gO : mg "word_of" = some (.ref fO))
    (FZ : Fun K "count" "count" sCo fZ fdZ) (GZ : FnOk P w K mg base CX0 3 fZ fdZ ["word"] spCo) (bZ : Binds K fdZ ["word"] []) (gZ : mg "count" = some (.ref fZ))
    (gW : mg "_law_with_word" = some (.ref fW)) (SW : S fW (cdWw c.w)) (SQ : S fQ (cdOf c.w c.n)) (eW : Err1 K c c.w 0) (eN : Err1 K c c.n 1) (mW : PySem.W.exmOne K (.ref c.w) (.ref c.e) = some true) (mN : PySem.W.exmOne K (.ref c.n) (.ref c.e) = some true) :
    FnOk P w K mg base CX0 10 f fd ["_law_script"] (spLaw K Ts) := by
  refine F.ok scLaw (fun vs H Q E h => ?_) (fun cdv A outer s H vs Q E hr h => ?_)
  · obtain ⟨a, ns, rfl, _⟩ := h
    rfl
  · obtain ⟨a, ns, rfl, hS, hSc, t, hn, q⟩ := h
    have nd := scLaw.nd
    have hr1 := hr.mono (show 1 ≤ 9 by decide)
    have hr2 := hr.mono (show 2 ≤ 9 by decide)
    have hr3 := hr.mono (show 3 ≤ 9 by decide)
    have hr4 := hr.mono (show 4 ≤ 9 by decide)
    have hr7 := hr.mono (show 7 ≤ 9 by decide)
    have hr8 := hr.mono (show 8 ≤ 9 by decide)
    refine ⟨_, (pss_cons (ps_set (i := 1) nd rfl (.inl rfl) (pe_op op_mod (pe_call GC hr1 (by rfl) gC FC.kp bC .nil pass0 (pa_cons (pv 0) (pa_cons pe_int pa_nil))) (pe_op op_pow pe_int pe_int)))
      (pss_cons (ps_set (i := 2) nd rfl (.inl rfl) (pe_lst pa_nil))
      (pss_mid (ps_for PassesOwn.never rfl (pi_range1 (by rfl) N.range (pa_cons pe_int pa_nil)) (pg_name (i := 3) nd rfl (.inl rfl)) (pss_one (ps_expr (pe_bm PySem.F.plainAttrs_list PySem.F.slot_list_append PySem.F.type_list_append mt_append (pv 2) (pa_cons (pe_lst (pa_cons (pe_cmpR op_eq (pv 3) pe_int (nomark _)) (pa_cons (pe_cmpR op_eq (pv 3) pe_int (nomark _)) (pa_cons (pe_cmpR op_eq (pv 3) pe_int (nomark _)) (pa_cons (pe_cmpR op_eq (pv 3) pe_int (nomark _)) (pa_cons pe_bl pa_nil)))))) pa_nil)))))
      (pss_cons (ps_set (i := 4) nd rfl (.inl rfl) (pe_call GL hr2 (by rfl) gL FL.kp bL .nil pass0 (pa_cons (pv 0) pa_nil)))
      (pss_mid (ps_par (i := 5) (j := 6) rfl nd rfl rfl (by decide) rfl rfl (pa_cons (pe_callB call_len_str (by rfl) N.len PySem.boot_len (pa_cons (pv 4) pa_nil)) (pa_cons (pe_lst (pa_cons pe_non (pa_cons pe_int (pa_cons (pe_lst (pa_cons pe_str pa_nil)) (pa_cons (pe_tup (pa_cons pe_str pa_nil)) (pa_cons pe_str (pa_cons pe_str (pa_cons pe_str (pa_cons pe_str (pa_cons pe_str (pa_cons pe_str (pa_cons pe_bl (pa_cons pe_str (pa_cons pe_dnewK pa_nil)))))))))))))) pa_nil)) (by rfl))
      (pss_mid (ps_for PassesOwn.never rfl (pi_range3 (by rfl) N.range (pa_cons pe_int (pa_cons (pv 5) (pa_cons (pe_op op_add pe_int (pe_op op_fdiv (pv 5) pe_int)) pa_nil)))) (pg_name (i := 7) nd rfl (.inl rfl)) (pss_one (ps_expr (pe_bm PySem.F.plainAttrs_list PySem.F.slot_list_append PySem.F.type_list_append mt_append (pv 6) (pa_cons (pe_op op_add_str (pe_op op_add_str (pe_slice sl_str (pv 4) po_none (po_some (pv 7))) (pe_ix ix_str pe_str (pe_op op_mod (pv 7) pe_int) (fun _ _ => rfl))) (pe_slice sl_str (pv 4) (po_some (pe_op op_add (pv 7) pe_int)) po_none)) pa_nil)))))
      (pss_mid (ps_if (pt_not (pt_val (pe_call GA hr8 (by rfl) gA FA.kp bA .nil pass0 (pa_cons (pe_glob (v := .ref fW) (by rfl) gW rfl) (pa_cons (pe_lst (pa_cons pe_int (pa_cons pe_int (pa_cons pe_int pa_nil)))) (pa_cons (pv 6) (pa_cons (pe_ix ix_list (pv 2) pe_int (fun _ _ => rfl)) pa_nil))))))) (pss_one ps_never) pss_nil)
      (pss_cons (ps_set (i := 8) nd rfl (.inl rfl) (pe_call GN hr1 (by rfl) gN FN.kp bN .nil pass0 (pa_cons (pv 4) pa_nil)))
      (pss_mid (ps_for PassesOwn.never rfl (pi_tup (pe_tup (pa_cons pe_non (pa_cons pe_str (pa_cons pe_bl (pa_cons (pe_lst (pa_cons pe_int pa_nil)) (pa_cons (pe_un un_neg pe_int) (pa_cons (pe_op op_sub (pe_un un_neg pe_int) (pv 1)) (pa_cons (pv 8) (pa_cons (pe_op op_add (pv 8) (pv 1)) (pa_cons (pe_tup (pa_cons pe_int pa_nil)) pa_nil))))))))))) (pg_name (i := 9) nd rfl (.inl rfl)) (pss_one (ps_if (pt_cmpR (op_neD hr.units) (pe_call GT hr7 (by rfl) gT FT.kp bT .nil pass0 (pa_cons (pe_glob (v := .ref fQ) (by rfl) gQ rfl) (pa_cons (pv 4) (pa_cons (pv 9) pa_nil)))) (pe_ix ix_list (pv 2) pe_int (fun _ _ => rfl)) (nomark _)) (pss_one ps_never) pss_nil)))
      (pss_mid (ps_if (pt_not (pt_val (pe_call GG hr8 (by rfl) gG FG.kp bG .nil pass0 (pa_cons (pv 4) (pa_cons (pe_call GQ hr4 (by rfl) gQ FQ.kp bQ .nil pass0 (pa_cons (pv 4) (pa_cons (pe_call GF hr2 (by rfl) gF FF.kp bF .nil pass0 (pa_cons (pv 0) (pa_cons pe_int (pa_cons (pv 8) pa_nil)))) pa_nil))) (pa_cons (pe_ix ix_list (pv 2) pe_int (fun _ _ => rfl)) (pa_cons (pv 1) pa_nil))))))) (pss_one ps_never) pss_nil)
      (pss_one (ps_ret (pe_and (pe_call GR hr (by rfl) gR FR.kp bR .nil pass0 (pa_cons (pv 0) (pa_cons (pe_ix ix_list (pv 2) pe_int (fun _ _ => rfl)) (pa_cons (pv 1) pa_nil)))) (pe_and (pe_cmpR op_eq (pe_call GO hr3 (by rfl) gO FO.kp bO .nil pass0 (pa_cons (pe_lst (pa_cons (pv 1) pa_nil)) pa_nil)) pe_str (nomark _)) (pe_one (pe_cmpR op_eq (pe_call GZ hr3 (by rfl) gZ FZ.kp bZ .nil pass0 (pa_cons pe_str pa_nil)) pe_int (nomark _))))))))))))))))), ?_⟩
    have hsm : (2000 : Nat) ≤ sizeLine := by decide
    -- a number of the list, below a million
    refine ⟨_, rfl, a, ns, 0, rfl, hS, _, _, rfl, rfl, (show CPow 10 6 from ⟨by decide, by decide, by decide⟩), _, _, rfl, rfl, (show (0 : Int) < 10 ^ (6 : Int).toNat by decide), ?_⟩
    have far0 : 0 ≤ ns.getD 0 0 % 10 ^ (6 : Int).toNat := Int.emod_nonneg _ (by decide)
    obtain ⟨far, efar⟩ : ∃ z : Int, ns.getD 0 0 % 10 ^ (6 : Int).toNat = z := ⟨_, rfl⟩
    rw [efar] at far0
    -- what is due
    refine ⟨Nat.zero_le _, fun D nD => ?_⟩
    refine ⟨fun σ' H' => ∃ (v3 : Option V) (as : List Addr), σ' = [some (.ref a), some (.int far), some (.ref D), v3, none, none, none, none, none, none] ∧ Same H H' ∧ as.length = 4 ∧ H' D = some (.lst (as.map V.ref)) ∧ ∀ (j : Nat) (b : Addr), as[j]? = some b → H' b = some (.lst ((flags j).map V.bl)), ?_, fun σ1 H1 hM => ?_⟩
    · refine ⟨4, rfl, by decide, by decide, for_range (n := (4 : Int).toNat) (fun i σ' H' => ∃ (v3 : Option V) (as : List Addr), σ' = [some (.ref a), some (.int far), some (.ref D), v3, none, none, none, none, none, none] ∧ Same H H' ∧ as.length = i ∧ H' D = some (.lst (as.map V.ref)) ∧ ∀ (j : Nat) (b : Addr), as[j]? = some b → b ≠ D ∧ H' b = some (.lst ((flags j).map V.bl)))
        ⟨none, [], by rw [← efar]; rfl, same_upd nD, rfl, upd_same, fun j b e => (by simp at e)⟩ (fun i σ G hi hW => ?_) (fun σ G hW => ?_)⟩
      · obtain ⟨v3, as, rfl, s', hl', hD, has⟩ := hW
        have hi4 : i < 4 := hi
        refine ⟨_, rfl, .inl ⟨rfl, _, .inl (.inl hD)⟩, ?_⟩
        refine ⟨_, rfl, rfl, _, rfl, rfl, _, rfl, rfl, _, rfl, rfl, (show 5 ≤ sizeLine by decide), fun r nr => ?_⟩
        have eqd : ∀ c : Nat, (decide (V.int (0 + (i : Nat)) = V.int (c : Int))) = decide (i = c) := fun c => by
          by_cases h : i = c
          · rw [decide_eq_true h, decide_eq_true (by rw [h, Int.zero_add])]
          · rw [decide_eq_false h, decide_eq_false fun e => h (by have := V.int.inj e; omega)]
        have ef : ([V.bl (decide (V.int (0 + (i : Nat)) = V.int 0)), V.bl (decide (V.int (0 + (i : Nat)) = V.int 1)), V.bl (decide (V.int (0 + (i : Nat)) = V.int 2)), V.bl (decide (V.int (0 + (i : Nat)) = V.int 3)), V.bl true] : List V) = (flags i).map V.bl := by
          have h0 := eqd 0
          have h1 := eqd 1
          have h2 := eqd 2
          have h3 := eqd 3
          show [V.bl _, V.bl _, V.bl _, V.bl _, V.bl true] = [V.bl (decide (i = 0)), V.bl (decide (i = 1)), V.bl (decide (i = 2)), V.bl (decide (i = 3)), V.bl true]
          rw [← h0, ← h1, ← h2, ← h3]
          rfl
        rw [ef] at *
        have u := same_upd (o := .lst ((flags i).map V.bl)) nr
        have er : upd G r (.lst ((flags i).map V.bl)) r = some (.lst ((flags i).map V.bl)) := upd_same
        have nrD : r ≠ D := (ne_of_none hD nr).symm
        generalize upd G r (.lst ((flags i).map V.bl)) = G2 at u er ⊢
        refine ⟨D, as.map V.ref, .ref r, rfl, rfl, u _ _ hD, ?_, _, as ++ [r], rfl, fun b o e => ?_, by rw [List.length_append, hl']; rfl, by rw [upd_same, List.map_append]; rfl, fun j b e => ?_⟩
        · rw [List.length_map, hl']
          exact Nat.lt_of_lt_of_le (show i < 2000 by omega) hsm
        · rw [upd_ne (ne_of_none e nD)]
          exact u _ _ (s' _ _ e)
        · by_cases hj : j < as.length
          · rw [List.getElem?_append_left hj] at e
            obtain ⟨h1, h2⟩ := has j b e
            exact ⟨h1, by rw [upd_ne h1]; exact u _ _ h2⟩
          · have hj2 : j < (as ++ [r]).length := (List.getElem?_eq_some_iff.mp e).1
            have ej : j = i := by
              rw [List.length_append, hl'] at hj2
              have : j < i + 1 := hj2
              omega
            rw [List.getElem?_append_right (by omega), hl', ej, Nat.sub_self] at e
            have eb : r = b := Option.some.inj e
            rw [← eb, ej]
            exact ⟨nrD, by rw [upd_ne nrD]; exact er⟩
      · obtain ⟨v3, as, rfl, s', hl', hD, has⟩ := hW
        exact ⟨v3, as, rfl, s', hl', hD, fun j b e => (has j b e).2⟩
    obtain ⟨v3, as, rfl, S1, hal, hD, has⟩ := hM
    obtain ⟨a0, a1, a2, a3, rfl⟩ : ∃ a0 a1 a2 a3, as = [a0, a1, a2, a3] := match as, hal with | [a0, a1, a2, a3], _ => ⟨a0, a1, a2, a3, rfl⟩
    have hd0 := has 0 a0 rfl
    have hd1 := has 1 a1 rfl
    have hd2 := has 2 a2 rfl
    have hd3 := has 3 a3 rfl
    clear has
    -- the word
    refine ⟨_, rfl, a, ns, rfl, S1.seq hS, fun l H2 hl S2 => ?_⟩
    have S12 := S1.trans S2
    have hD2 := S2 _ _ hD
    replace hd0 := S2 _ _ hd0
    replace hd1 := S2 _ _ hd1
    replace hd2 := S2 _ _ hd2
    replace hd3 := S2 _ _ hd3
    clear hD
    -- what is no word
    refine ⟨fun σ' H' => ∃ (q : Addr), σ' = [some (.ref a), some (.int far), some (.ref D), v3, some (.str (wd l)), some (.int ((wd l).length : Int)), some (.ref q), none, none, none] ∧ Same H2 H' ∧ H2 q = none ∧ BadsAt H' q 13, ?_, fun σ3 H3 hM => ?_⟩
    · refine ⟨_, rfl, _, rfl, by rw [wd_len]; exact Nat.le_trans (show l.length ≤ 2000 by omega) hsm, ?_⟩
      refine ⟨(show 1 ≤ sizeLine by decide), fun r1 n1 => ?_⟩
      have u1 := same_upd (o := .lst [.str "u"]) n1
      have b1 : BadW (upd H2 r1 (.lst [.str "u"])) (.ref r1) := .inl ⟨"list", by decide, .lst upd_same⟩
      generalize upd H2 r1 (.lst [.str "u"]) = G1 at u1 b1 ⊢
      refine ⟨(show 1 ≤ sizeLine by decide), fun r2 n2 => ?_⟩
      have u2 := same_upd (o := .tup [.str "u"]) n2
      have b2 : BadW (upd G1 r2 (.tup [.str "u"])) (.ref r2) := .inl ⟨"tuple", by decide, .tup upd_same⟩
      generalize upd G1 r2 (.tup [.str "u"]) = G2 at u2 b2 ⊢
      intro r3 n3
      have u3 := same_upd (o := .dK []) n3
      have b3 : BadW (upd G2 r3 (.dK [])) (.ref r3) := .inl ⟨"dict", by decide, .dK upd_same⟩
      generalize upd G2 r3 (.dK []) = G3 at u3 b3 ⊢
      refine ⟨(show 13 ≤ sizeLine by decide), fun q nq => ?_⟩
      have sc := (u1.trans u2).trans u3
      refine ⟨_, _, rfl, q, rfl, sc.trans (same_upd nq), sc.free nq, .new nq (Nat.le_refl 13) fun x hx => ?_⟩
      simp only [List.mem_cons, List.not_mem_nil, or_false] at hx
      rcases hx with rfl | rfl | rfl | rfl | rfl | rfl | rfl | rfl | rfl | rfl | rfl | rfl | rfl
      · exact .inl ⟨"NoneType", by decide, .non⟩
      · exact .inl ⟨"int", by decide, .int _⟩
      · exact b1.same (u2.trans u3)
      · exact b2.same u3
      · exact .inr ⟨_, rfl, odd_of _ (by decide +kernel)⟩
      · exact .inr ⟨_, rfl, odd_of _ (by decide +kernel)⟩
      · exact .inr ⟨_, rfl, odd_of _ (by decide +kernel)⟩
      · exact .inr ⟨_, rfl, odd_of _ (by decide +kernel)⟩
      · exact .inr ⟨_, rfl, odd_of _ (by decide +kernel)⟩
      · exact .inr ⟨_, rfl, odd_of _ (by decide +kernel)⟩
      · exact .inl ⟨"bool", by decide, .bl true⟩
      · exact .inr ⟨_, rfl, odd_of _ (by decide +kernel)⟩
      · exact b3
    obtain ⟨q0, rfl, S3, nq, WA⟩ := hM
    -- a strange letter at some places
    refine ⟨fun σ' H' => ∃ (v7 : Option V), σ' = [some (.ref a), some (.int far), some (.ref D), v3, some (.str (wd l)), some (.int ((wd l).length : Int)), some (.ref q0), v7, none, none] ∧ Same H2 H' ∧ BadsAt H' q0 113, ?_, fun σ4 H4 hM => ?_⟩
    · obtain ⟨g1, g2, g3⟩ := rg_ok (m := l.length) (by omega)
      refine ⟨_, rfl, _, rfl, _, _, rfl, rfl, (show CDiv _ 6 from ⟨by decide, by decide⟩), _, _, rfl, rfl, 0, _, _, rgN l.length, rfl, by rw [wd_len]; exact g1, for_rangeC (fun i σ' H' => ∃ (v7 : Option V), σ' = [some (.ref a), some (.int far), some (.ref D), v3, some (.str (wd l)), some (.int ((wd l).length : Int)), some (.ref q0), v7, none, none] ∧ Same H2 H' ∧ BadsAt H' q0 (13 + i)) ⟨_, rfl, S3, WA⟩ (fun i σ G hi hW => ?_) (fun σ G hW => ?_)⟩
      · obtain ⟨v7, rfl, S5, xs, eq0, xl, xb⟩ := hW
        obtain ⟨k0, ek, hk⟩ := g3 i hi
        rw [wd_len, ek]
        have hwl : (wd l).length ≤ 100 := by rw [wd_len]; omega
        refine ⟨_, rfl, .inl ⟨rfl, _, .inl (.inl eq0)⟩, ?_⟩
        refine ⟨_, rfl, _, rfl, _, rfl, _, rfl, Nat.le_trans (show (wd l).length ≤ 2000 by omega) hsm, ?_⟩
        obtain ⟨ch, hch, c1, c2⟩ : ∃ ch, atI (Str.ofString "xU -\t").cps.toList ((k0 : Int) % 5) = some ch ∧ ch ≠ 117 ∧ ch ≠ 100 := by
          have h5 : k0 % 5 = 0 ∨ k0 % 5 = 1 ∨ k0 % 5 = 2 ∨ k0 % 5 = 3 ∨ k0 % 5 = 4 := by omega
          have ec : (k0 : Int) % 5 = ((k0 % 5 : Nat) : Int) := by omega
          rw [ec]
          rcases h5 with h | h | h | h | h <;> rw [h]
          · exact ⟨120, by decide +kernel, by decide, by decide⟩
          · exact ⟨85, by decide +kernel, by decide, by decide⟩
          · exact ⟨32, by decide +kernel, by decide, by decide⟩
          · exact ⟨45, by decide +kernel, by decide, by decide⟩
          · exact ⟨9, by decide +kernel, by decide, by decide⟩
        refine ⟨_, rfl, _, _, rfl, rfl, (show (0 : Int) < 5 by decide), _, _, ch, rfl, rfl, by decide +kernel, hch, ?_⟩
        have l1 := cutS_len (wd l) none (some (k0 : Int))
        have l2 := cutS_len (wd l) (some ((k0 : Int) + 1)) none
        refine ⟨_, _, rfl, rfl, Nat.le_trans (show (cutS (wd l) none (some (k0 : Int))).length + 1 ≤ 2000 by omega) hsm, ?_⟩
        refine ⟨_, rfl, _, rfl, _, _, rfl, rfl, _, rfl, _, rfl, Nat.le_trans (show (wd l).length ≤ 2000 by omega) hsm, ?_⟩
        refine ⟨_, _, rfl, rfl, ?_, ?_⟩
        · rw [str_app_len]
          exact Nat.le_trans (show (cutS (wd l) none (some (k0 : Int))).length + 1 + (cutS (wd l) (some ((k0 : Int) + 1)) none).length ≤ 2000 by omega) hsm
        refine ⟨q0, xs, _, rfl, rfl, eq0, Nat.lt_of_lt_of_le (show xs.length < 2000 by omega) hsm, _, rfl, fun b0 u0 e0 => ?_, _, upd_same, by rw [List.length_append]; show xs.length + 1 ≤ 13 + (i + 1); omega, fun x hx => ?_⟩
        · rw [upd_ne (ne_of_none e0 nq)]
          exact S5 _ _ e0
        · rw [wo_upd]
          rcases List.mem_append.mp hx with hx | hx
          · exact xb x hx
          · rw [List.mem_singleton.mp hx]
            refine .inr ⟨_, rfl, ?_, ch, ?_, c1, c2⟩
            · rw [str_app_len, str_app_len]
              show (cutS (wd l) none (some (k0 : Int))).length + 1 + (cutS (wd l) (some ((k0 : Int) + 1)) none).length ≤ 1000
              omega
            · rw [str_app_cps, str_app_cps]
              exact List.mem_append_left _ (List.mem_append_right _ List.mem_cons_self)
      · obtain ⟨v7, rfl, S5, xs, eq0, xl, xb⟩ := hW
        exact ⟨_, rfl, S5, xs, eq0, by omega, xb⟩
    obtain ⟨v7, rfl, S4, xs, eq0, xl, xb⟩ := hM
    have xb4 : ∀ x ∈ xs, BadW H4 x := fun x hx => (xb x hx).same wo_same
    have T4 := t.same (S12.trans S4)
    have hD4 := S4 _ _ hD2
    have at0 : atI [V.ref a0, V.ref a1, V.ref a2, V.ref a3] 0 = some (V.ref a0) := rfl
    have at1 : atI [V.ref a0, V.ref a1, V.ref a2, V.ref a3] 1 = some (V.ref a1) := rfl
    have at2 : atI [V.ref a0, V.ref a1, V.ref a2, V.ref a3] 2 = some (V.ref a2) := rfl
    have at3 : atI [V.ref a0, V.ref a1, V.ref a2, V.ref a3] 3 = some (V.ref a3) := rfl
    -- each is refused
    refine ⟨fun σ' H' => σ' = [some (.ref a), some (.int far), some (.ref D), v3, some (.str (wd l)), some (.int ((wd l).length : Int)), some (.ref q0), v7, none, none] ∧ SameT Ts H4 H' ∧ TabsG H' Ts, ?_, fun σ5 H5 hM => ?_⟩
    · refine ⟨(show 3 ≤ sizeLine by decide), fun r1 n1 => ?_⟩
      have u1 := same_upd (o := .lst [.int 0, .int 1, .int 2]) n1
      refine ⟨_, rfl, _, rfl, D, _, _, _, rfl, rfl, .inl (.inl (u1 _ _ hD4)), at0, ?_⟩
      refine ⟨fW, r1, q0, a0, [0, 1, 2], xs, cdWw c.w, c.w, 0, rfl, SW, .inl (.inl upd_same), .inl (.inl (u1 _ _ eq0)), .inl (.inl (u1 _ _ (S4 _ _ hd0))), by omega, eW, mW, T4.same u1, fun d hd x hx H' s' t' => ?_, fun H' s' t' => ?_⟩
      · exact ⟨d, x, rfl, ((xb4 x hx).same u1).tabs (T4.same u1) s', rfl⟩
      · exact ⟨_, rfl, iteF ⟨rfl, (sameT u1).trans s', t'⟩⟩
    obtain ⟨rfl, s5, t5⟩ := hM
    have keep5 : ∀ (r : Addr) (ys : List V), H2 r = some (.lst ys) → H5 r = some (.lst ys) := fun r ys e => T4.keep s5 (S4 _ _ e) fun _ z => by cases z
    -- how many there are
    refine ⟨_, rfl, l, rfl, by omega, fun H6 S6 => ?_⟩
    have hpos := RF.cnt_pos l
    have t6 := t5.same S6
    have keep6 : ∀ (r : Addr) (ys : List V), H2 r = some (.lst ys) → H6 r = some (.lst ys) := fun r ys e => S6 _ _ (keep5 r ys e)
    have ST6 : SameT Ts H H6 := (sameT (S12.trans S4)).trans (s5.trans (sameT S6))
    -- what is no number
    refine ⟨fun σ' H' => ∃ (v9 : Option V), σ' = [some (.ref a), some (.int far), some (.ref D), v3, some (.str (wd l)), some (.int ((wd l).length : Int)), some (.ref q0), v7, some (.int (RF.cnt l)), v9] ∧ SameT Ts H6 H' ∧ TabsG H' Ts, ?_, fun σ7 H7 hM => ?_⟩
    · refine ⟨(show 1 ≤ sizeLine by decide), fun r1 n1 => ?_⟩
      have u1 := same_upd (o := .lst [.int 0]) n1
      have b1 : BadN (upd H6 r1 (.lst [.int 0])) (.ref r1) (RF.cnt l) := .inl ⟨"list", by decide, .lst upd_same⟩
      generalize upd H6 r1 (.lst [.int 0]) = G1 at u1 b1 ⊢
      refine ⟨_, rfl, _, rfl, _, rfl, _, _, rfl, rfl, _, rfl, _, rfl, _, rfl, _, _, rfl, rfl, (show 1 ≤ sizeLine by decide), fun r2 n2 => ?_⟩
      have u2 := same_upd (o := .tup [.int 0]) n2
      have b2 : BadN (upd G1 r2 (.tup [.int 0])) (.ref r2) (RF.cnt l) := .inl ⟨"tuple", by decide, .tup upd_same⟩
      generalize upd G1 r2 (.tup [.int 0]) = G2 at u2 b2 ⊢
      refine ⟨(show 9 ≤ sizeLine by decide), fun r3 n3 => ?_⟩
      have u3 := same_upd (o := .tup [.non, .str "0", .bl true, .ref r1, .int (-1), .int (-1 - far), .int (RF.cnt l), .int (RF.cnt l + far), .ref r2]) n3
      have e3 : upd G2 r3 (.tup [.non, .str "0", .bl true, .ref r1, .int (-1), .int (-1 - far), .int (RF.cnt l), .int (RF.cnt l + far), .ref r2]) r3 = some (.tup [.non, .str "0", .bl true, .ref r1, .int (-1), .int (-1 - far), .int (RF.cnt l), .int (RF.cnt l + far), .ref r2]) := upd_same
      have ib : ∀ x ∈ ([.non, .str "0", .bl true, .ref r1, .int (-1), .int (-1 - far), .int (RF.cnt l), .int (RF.cnt l + far), .ref r2] : List V), BadN (upd G2 r3 (.tup [.non, .str "0", .bl true, .ref r1, .int (-1), .int (-1 - far), .int (RF.cnt l), .int (RF.cnt l + far), .ref r2])) x (RF.cnt l) := by
        intro x hx
        simp only [List.mem_cons, List.not_mem_nil, or_false] at hx
        rcases hx with rfl | rfl | rfl | rfl | rfl | rfl | rfl | rfl | rfl
        · exact .inl ⟨"NoneType", by decide, .non⟩
        · exact .inl ⟨"str", by decide, .str _⟩
        · exact .inl ⟨"bool", by decide, .bl true⟩
        · exact (b1.same u2).same u3
        · exact .inr ⟨_, rfl, .inl (by decide)⟩
        · exact .inr ⟨_, rfl, .inl (by omega)⟩
        · exact .inr ⟨_, rfl, .inr (Int.le_refl _)⟩
        · exact .inr ⟨_, rfl, .inr (by omega)⟩
        · exact b2.same u3
      have sc := (u1.trans u2).trans u3
      have t9 := t6.same sc
      rw [show (-(1 : Int)) = -1 from rfl] at *
      generalize ([.non, .str "0", .bl true, .ref r1, .int (-1), .int (-1 - far), .int (RF.cnt l), .int (RF.cnt l + far), .ref r2] : List V) = its at e3 ib sc t9 ⊢
      generalize upd G2 r3 (.tup its) = G3 at e3 ib sc t9 ⊢
      refine ⟨r3, rfl, ⟨_, SqT.of e3⟩, for_tup (xs := its) (fun i σ' H' => ∃ (v9 : Option V), σ' = [some (.ref a), some (.int far), some (.ref D), v3, some (.str (wd l)), some (.int ((wd l).length : Int)), some (.ref q0), v7, some (.int (RF.cnt l)), v9] ∧ SameT Ts G3 H' ∧ TabsG H' Ts) ⟨none, rfl, .refl, t9⟩ (fun i σ' H' _ hW => ?_) (fun i x σ' H' hx hW => ?_) (fun σ' H' hW => ?_)⟩
      · obtain ⟨_, _, s', _⟩ := hW
        exact SqT.of (t9.keep s' e3 fun _ z => by cases z)
      · obtain ⟨v9, rfl, s', t'⟩ := hW
        have kp : ∀ (r : Addr) (ys : List V), H2 r = some (.lst ys) → H' r = some (.lst ys) := fun r ys e => t9.keep s' (sc _ _ (keep6 r ys e)) fun _ z => by cases z
        refine ⟨_, rfl, _, rfl, fQ, cdOf c.w c.n, .str (wd l), x, c.n, 1, rfl, SQ, ⟨_, x, rfl, .inr ⟨l, rfl, by omega, (ib x (List.mem_of_getElem? hx)).tabs t9 s', rfl⟩⟩, eN, mN, t', fun G4 pp s4 t4 np hpp => ?_⟩
        have kp4 : ∀ (r : Addr) (ys : List V), H2 r = some (.lst ys) → G4 r = some (.lst ys) := fun r ys e => t'.keep s4 (kp r ys e) fun _ z => by cases z
        refine ⟨_, rfl, D, _, _, _, rfl, rfl, .inl (.inl (kp4 _ _ hD2)), at1, ?_⟩
        refine ⟨_, _, dp_flags (.inl (.inl hpp)), dp_flags (.inl (.inl (kp4 _ _ hd1))), sh_flags 1, sh_flags 1, ?_⟩
        rw [eq_flags]
        exact ⟨_, rfl, iteF ⟨_, rfl, s'.trans s4, t4⟩⟩
      · obtain ⟨v9, rfl, s', t'⟩ := hW
        exact ⟨v9, rfl, (sameT sc).trans s', t'⟩
    obtain ⟨v9, rfl, s7, t7⟩ := hM
    have keep7 : ∀ (r : Addr) (ys : List V), H2 r = some (.lst ys) → H7 r = some (.lst ys) := fun r ys e => t6.keep s7 (keep6 r ys e) fun _ z => by cases z
    have ST7 : SameT Ts H H7 := ST6.trans s7
    -- what is no order
    refine ⟨fun σ' H' => σ' = [some (.ref a), some (.int far), some (.ref D), v3, some (.str (wd l)), some (.int ((wd l).length : Int)), some (.ref q0), v7, some (.int (RF.cnt l)), v9] ∧ SameT Ts H7 H' ∧ TabsG H' Ts, ?_, fun σ8 H8 hM => ?_⟩
    · refine ⟨_, rfl, _, rfl, _, rfl, _, rfl, a, ns, 3, _, rfl, sq_tabs t ST7 hS, by omega, by decide, by omega, fun x G1 x0 x1 u1 => ?_⟩
      refine ⟨l, x, rfl, by omega, x0, x1, fun G2 p o u2 np ep cp => ?_⟩
      have u := u1.trans u2
      refine ⟨_, rfl, D, _, _, _, rfl, rfl, .inl (.inl (u _ _ (keep7 _ _ hD2))), at2, _, rfl, ?_⟩
      refine ⟨l, p, o, orderOf l x, a2, far, rfl, by omega, ep, cp, order_is x0 x1, far0, .inl (.inl (u _ _ (keep7 _ _ hd2))), t7.same u, fun H' s' t' => ?_⟩
      exact ⟨_, rfl, iteF ⟨rfl, (sameT u).trans s', t'⟩⟩
    obtain ⟨rfl, s8, t8⟩ := hM
    have keep8 : ∀ (r : Addr) (ys : List V), H2 r = some (.lst ys) → H8 r = some (.lst ys) := fun r ys e => t7.keep s8 (keep7 r ys e) fun _ z => by cases z
    have ST8 : SameT Ts H H8 := ST7.trans s8
    -- what is no row; what is just within
    refine ⟨_, rfl, _, rfl, D, _, _, _, rfl, rfl, .inl (.inl (keep8 _ _ hD2)), at3, _, rfl, ?_⟩
    refine ⟨a, ns, a3, far, rfl, sq_tabs t ST8 hS, cl_tabs t ST8 hSc, hn, far0, .inl (.inl (keep8 _ _ hd3)), t8, fun H9 s9 t9 => ?_⟩
    refine ⟨_, rfl, iteT ?_⟩
    refine ⟨_, rfl, (show 1 ≤ sizeLine by decide), fun r nr => ?_⟩
    have u := same_upd (o := .lst [.int far]) nr
    refine ⟨r, [far], rfl, .inl (.inl upd_same), .inr fun i h1 h2 => absurd h2 (by show ¬ (i + 1 < 1); omega), t9.same u, (show 1 ≤ 1 by decide), (show 1 ≤ 900 by decide), fun i x y hx hy => ?_, fun H10 s10 t10 => ?_⟩
    · cases i with
      | zero => cases hy
      | succ i => cases hx
    have e0 : V.str (wd (byOf [far])) = V.str (Str.ofString "") := by
      show V.str (wd []) = _
      decide +kernel
    refine ⟨rfl, ?_⟩
    rw [decide_eq_true e0]
    refine ⟨_, rfl, iteT ?_⟩
    refine ⟨[true], congrArg (fun z => [V.str z]) (show (Str.ofString "u" : Str) = wd [true] by decide +kernel), by decide, fun H11 u11 => ?_⟩
    refine ⟨rfl, ?_⟩
    rw [decide_eq_true (show V.int (RF.cnt [true]) = V.int 1 by decide +kernel)]
    exact q H11
end
end K5
end
-- part KEnd
section
set_option Elab.async false
set_option linter.all false
set_option maxRecDepth 100000
set_option maxHeartbeats 2000000
/-! What an end asks of the top: defs as they stand, and the code objects' tables of some of them. -/
namespace KEnd
open PySem PySem.Spec PySem.Calls PyProof.Rows L2 RFI PySem.W K1
theorem tabMk {K : Frag} {x : Str} {f c T : Addr} {oc oc2 : Value} {od od2 : Option Addr} {fd : FuncData} {vs : Array Value} {sl sl2 : Array (Option Value)} (a1 : nsIn K mainGlobals x = some (some (.ref f))) (l1 : K.lookup f = some ⟨oc, od, .func fd, sl⟩) (c1 : fd.code = .ref c)
    (l2 : K.lookup c = some ⟨oc2, od2, .fields vs, sl2⟩) (e : (vs[11]? : Option Value) = some (.ref T)) : ∃ p : Addr × Addr, tabIn K x = some p := by
  refine ⟨(c, T), ?_⟩
  unfold tabIn
  simp only [a1, l1, c1, l2, e]
/-- a def of the text as the top has left it -/
def Std (K : Frag) (mg : Str → Option Value) (x : Str) (st : Stmt) : Prop := ∃ f fd, Fun K x x st f fd ∧ mg x = some (.ref f)
theorem stdMk {x : Str} {st : Stmt} {K : Frag} {h : Heap} {mg : Str → Option Value} {f : Addr} {od an : Option Addr} {sl : Array (Option Value)} {oc kV dc pm cd ct : Value} (X : K.In h) (G : h.Ns mainGlobals mg)
    (a1 : nsIn K mainGlobals x = some (some (.ref f))) (l1 : K.lookup f = some ⟨oc, od, .func (fnOf x x (defArgs st) (defBody st) (defScope st) .none kV dc pm an cd ct), sl⟩) (c1 : codeIn K cd x = true) (k1 : keepIn K (.ref f) = true) : Std K mg x st :=
  ⟨f, _, fun_mk (st := st) l1 c1 k1, mg_of X G a1⟩
/-- a method of a class as the top has left it -/
def StdM (K : Frag) (C : Addr) (x qual : Str) (st : Stmt) : Prop := ∃ f fd, Fun K x qual st f fd ∧ Meth K C x f
theorem stdMMk {x qual : Str} {st : Stmt} {K : Frag} {C f : Addr} {od an : Option Addr} {sl : Array (Option Value)} {oc kV dc pm cd ct : Value}
    (a1 : findIn K (.ref C) x = some (some (.ref f))) (i1 : isFn K (.ref f) = true) (l1 : K.lookup f = some ⟨oc, od, .func (fnOf x qual (defArgs st) (defBody st) (defScope st) .none kV dc pm an cd ct), sl⟩) (c1 : codeIn K cd qual = true) (k1 : keepIn K (.ref f) = true) : StdM K C x qual st :=
  ⟨f, _, fun_mk (st := st) l1 c1 k1, a1, i1, k1⟩
def dfOf {K K' : Frag} {mg : Str → Option Value} {x : Str} {st : Stmt} {ps : List Str} {f : Addr} {fd : FuncData} (S : Sub K K') (F : Fun K x x st f fd) (g : mg x = some (.ref f))
    (hb : ∀ (kV doc pm : Value) (an : Option Addr) (cdv ct : Value) (us : List Value), us.length = ps.length → bindArgs (fnOf x x (defArgs st) (defBody st) (defScope st) .none kV doc pm an cdv ct) ⟨us, []⟩ = pure (ps.zip us)) : Df K' mg x st ps :=
  ⟨f, fd, S.fun_ F, (S.fun_ F).binds hb, g⟩
theorem code_of {K : Frag} {h : Heap} {mg : Str → Option Value} {x : Str} {st : Stmt} {f : Addr} {fd : FuncData} {p : Addr × Addr} (X : K.In h) (G : h.Ns mainGlobals mg) (F : Fun K x x st f fd) (g : mg x = some (.ref f)) (ht : tabIn K x = some p) : fd.code = .ref p.1 := by
  obtain ⟨oc, od, kV, doc', pm', an, cdv, ct, osl, e, lk, _⟩ := F.ex
  exact law_code X G ht g (X _ _ lk) rfl
/-- the law's own def -/
theorem law_fa {K : Frag} {mg : Str → Option Value} {x : Str} {st : Stmt} {f fa : Addr} {fd : FuncData} (F : Fun K x x st f fd) (g : mg x = some (.ref f)) (hfa : mg x = some (.ref fa)) : fa = f := Value.ref.inj (Option.some.inj (hfa.symm.trans g))
theorem bind1 {K : Frag} {qual x y : Str} {st : Stmt} {f : Addr} {fd : FuncData} (F : Fun K x qual st f fd)
    (hb : ∀ (kV doc pm : Value) (an : Option Addr) (cdv ct : Value) (u : Value), bindArgs (fnOf x qual (defArgs st) (defBody st) (defScope st) .none kV doc pm an cdv ct) ⟨[u], []⟩ = pure [(y, u)]) (s : Shared) (u : Value) : BindsTo s fd ⟨[u], []⟩ [(y, u)] := by
  obtain ⟨oc, od, kV, doc', pm', an, cdv, ct, osl, e, _, _⟩ := F.ex
  rw [e]
  exact .of_eq (hb _ _ _ _ _ _ _)
end KEnd
end
-- part K5X
section
set_option Elab.async false
set_option linter.all false
set_option maxRecDepth 100000
set_option maxHeartbeats 2000000
namespace K5
open PySem PySem.Spec PySem.Calls PyProof.Rows L2 RFI PySem.W K1 KEnd K2
/-- the letters' dict, as the top has left it -/
def StdX (K : Frag) (w : World) (mg : Str → Option Value) : Prop := ∃ d es n, Exch K w mg d es n
theorem stdXMk {K : Frag} {w : World} {h : Heap} {mg : Str → Option Value} {d : Addr} {es : Array DictEntry} {n : Nat} {t1 t2 : Tok} (X : K.In h) (G : h.Ns mainGlobals mg) (a : nsIn K mainGlobals "EXCHANGED" = some (some (.ref d)))
    (l : K.lookup d = some ⟨.type "dict", none, .dict es n, #[]⟩) (k : PySem.W.KeysLit w.params es.toList) (lo : (d == sysModules) = false) (u : nsIn K d "u" = some (some (.str "d" t1))) (v : nsIn K d "d" = some (some (.str "u" t2))) : StdX K w mg :=
  ⟨d, es, n, ⟨l, k, lo⟩, mg_of X G a, ⟨t1, u⟩, ⟨t2, v⟩⟩
theorem exch_sub {K K' : Frag} {w : World} {mg : Str → Option Value} {d : Addr} {es : Array DictEntry} {n : Nat} (S : Sub K K') (X : Exch K w mg d es n) : Exch K' w mg d es n :=
  ⟨⟨S _ _ X.kd.at_ (fun z => by injection z with _ _ z; cases z), X.kd.lit, X.kd.low⟩, X.g, let ⟨t, e⟩ := X.u; ⟨t, S.ns e⟩, let ⟨t, e⟩ := X.d; ⟨t, S.ns e⟩⟩
end K5
end
-- part KEndE
section
set_option Elab.async false
set_option linter.all false
set_option maxRecDepth 100000
set_option maxHeartbeats 2000000
/-! Classes of errors as the top has left them. -/
namespace KEnd
open PySem PySem.Spec PySem.Calls PyProof.Rows L2 RFI PySem.W K1 RFX
section
variable {K K' : Frag}
theorem sub_nsOk (S : RFI.Sub K K') {N : Addr} (e : nsOkIn K N = true) : nsOkIn K' N = true := by
  unfold nsOkIn at e
  split at e
  · rename_i ho
    have h2 := S _ _ ho (fun z => by injection z with _ _ z; cases z)
    unfold nsOkIn
    rw [h2]
    exact e
  · cases e
theorem sub_tail (S : RFI.Sub K K') {bmB : List Value} : ∀ {l : List Value}, tailIn K bmB l = true → tailIn K' bmB l = true
  | [], e => e
  | v :: r, e => by
    unfold tailIn at e ⊢
    rcases Bool.or_eq_true_iff.mp e with q | q
    · rw [q, Bool.true_or]
    · refine Bool.or_eq_true_iff.mpr (.inr ?_)
      cases v with
      | ref A =>
        dsimp only at q ⊢
        split at q
        · rename_i cd sl ho
          have h2 := S _ _ ho (fun z => by injection z with _ _ z; cases z)
          rw [h2]
          dsimp only
          simp only [Bool.and_eq_true, beq_iff_eq] at q ⊢
          exact ⟨⟨sub_nsOk S q.1.1, S.ns q.1.2⟩, sub_tail S q.2⟩
        · cases q
      | _ => cases q
theorem sub_exc (S : RFI.Sub K K') {C : Addr} {bmB : List Value} {newId : String} (e : excIn K C bmB newId = true) : excIn K' C bmB newId = true := by
  unfold excIn at e
  split at e
  · rename_i dd cd sl ho
    have h2 := S _ _ ho (fun z => by injection z with _ _ z; cases z)
    obtain ⟨nm, bs, mro, ns, qn, hd, sn, sub, ab, col, del⟩ := cd
    obtain ⟨sl⟩ := sl
    split at e
    · rename_i C' bm k0 k1 k2 k3 n k5 hm hs
      dsimp only at hm hs e
      subst hm hs
      simp only [Bool.and_eq_true, beq_iff_eq] at e
      unfold excIn
      rw [h2]
      have r : (C' == C && n == newId && !del && tailIn K' bmB bm && nsOkIn K' ns && nsIn K' ns "__init__" == some none) = true := by
        simp only [Bool.and_eq_true, beq_iff_eq]
        exact ⟨⟨⟨e.1.1.1, sub_tail S e.1.1.2⟩, sub_nsOk S e.1.2⟩, S.ns e.2⟩
      exact r
    · cases e
  · cases e
end
/-- a class of errors as the top has left it -/
structure ECls (K : Frag) (mg : Str → Option Value) (x : Str) (C : Addr) : Prop where
  g : mg x = some (.ref C)
  ex : excIn K C [.type "ValueError", .type "Exception", .type "BaseException", .type "object"] "ValueError.__new__" = true
  kp : keepIn K (.ref C) = true
  cl : isClsIn K C = true
  ty : typeIn K (.ref C) = some (.type "type")
  hg : findIn K (.ref C) "__getattribute__" = some (some (.builtin "BaseException.__getattribute__"))
  hk : findIn K (.ref C) "__getattr__" = some none
  hs : subIn K (.ref C) (.type "BaseException") = some true
  hd : hasDictIn K C = true
  ha : findIn K (.ref C) "__class__" = some (some (.builtin "object.__class__"))
  hn : specialIn K (.builtin "object.__class__") "__get__" = some (some (.builtin "getset_descriptor.__get__"))
  ht : takesIn K (.builtin "object.__class__") = some true
  hm : mroIn K C (.type "object") = some true
  sv : subIn K (.ref C) (.type "ValueError") = some true
  sf : subIn K (.ref C) (.ref C) = some true
theorem eclsMk {K : Frag} {h : Heap} {mg : Str → Option Value} {x : Str} {C : Addr} (X : K.In h) (G : h.Ns mainGlobals mg) (a : nsIn K mainGlobals x = some (some (.ref C)))
    (ex : excIn K C [.type "ValueError", .type "Exception", .type "BaseException", .type "object"] "ValueError.__new__" = true) (kp : keepIn K (.ref C) = true) (cl : isClsIn K C = true) (ty : typeIn K (.ref C) = some (.type "type"))
    (hg : findIn K (.ref C) "__getattribute__" = some (some (.builtin "BaseException.__getattribute__"))) (hk : findIn K (.ref C) "__getattr__" = some none) (hs : subIn K (.ref C) (.type "BaseException") = some true) (hd : hasDictIn K C = true)
    (ha : findIn K (.ref C) "__class__" = some (some (.builtin "object.__class__"))) (hn : specialIn K (.builtin "object.__class__") "__get__" = some (some (.builtin "getset_descriptor.__get__"))) (ht : takesIn K (.builtin "object.__class__") = some true)
    (hm : mroIn K C (.type "object") = some true) (sv : subIn K (.ref C) (.type "ValueError") = some true) (sf : subIn K (.ref C) (.ref C) = some true) : ECls K mg x C := ⟨mg_of X G a, ex, kp, cl, ty, hg, hk, hs, hd, ha, hn, ht, hm, sv, sf⟩
theorem ECls.xcls {K K' : Frag} {mg : Str → Option Value} {x : Str} {C : Addr} (S : RFI.Sub K K') (c : ECls K mg x C) : XCls K' mg x C :=
  ⟨c.g, sub_exc S c.ex, S.keep c.kp, S.type c.ty (fun z => by cases z), S.find c.hg, S.find c.hk, S.sub c.hs, S.clsAny c.hd, S.find c.ha, S.special c.hn, S.takes c.ht, S.mro c.hm⟩
theorem kit_refs {K : Frag} {mg : Str → Option Value} {x : Str} {D C : Addr} {b : Bool} (c : ECls K mg x C) (h : subIn K (.ref D) (.ref C) = some b) : kitOne K (.ref D) (.ref C) = some b := by
  unfold kitOne
  by_cases e : D = C
  · rw [e] at h ⊢
    rw [if_pos (beq_self_eq_true _), ← h, c.sf]
  · rw [if_neg (by simpa using e)]
    show (if ((clsIn K C).isSome && typeIn K (.ref C) == some (.type "type")) = true then subIn K (.ref D) (.ref C) else none) = some b
    have h1 : (clsIn K C).isSome = true := c.cl
    rw [h1, c.ty]
    exact h
theorem kit_value {K : Frag} {mg : Str → Option Value} {x : Str} {D : Addr} (c : ECls K mg x D) : kitOne K (.ref D) (.type "ValueError") = some true := by
  unfold kitOne
  rw [if_neg (fun z : (Value.ref D == Value.type "ValueError") = true => by cases (beq_iff_eq.mp z))]
  show (if kitMeta "ValueError" = true then subIn K (.ref D) (.type "ValueError") else none) = some true
  rw [if_pos (by decide +kernel), c.sv]
end KEnd
end
-- part K5M
section
set_option Elab.async false
set_option linter.all false
set_option maxRecDepth 100000
set_option maxHeartbeats 8000000
namespace K5
open PySem PySem.Spec PySem.Calls PyProof.Rows L2 RFI PySem.W K1 KEnd ZG CwR K2 RFX
section
variable {P : Program} {w : World} {K : PySem.W.Frag} {mg : Str → Option Value} {base : Heap}
theorem woT {T fC : Addr} {fdC : FuncData} {Ts : List Addr} (hT : T ∈ Ts) {k : Nat} (G : FnOk P w K mg base CX0 k fC fdC ["row"] (spWo K T)) : FnOk P w K mg base CX0 k fC fdC ["row"] (spWoT K Ts) :=
  G.imp fun vs H Q E ⟨a, ns, e, hS, hC, t, l1, l2, hd, q⟩ => ⟨a, ns, e, hS, hC, t T hT, l1, l2, hd, fun H' s' t' => q H' (fun b o hb e => s' b o (fun z => hb (by rw [z]; exact hT)) e) fun U hU => by
    by_cases z : U = T
    · rw [z]; exact t'
    · exact let ⟨ps, e1, e2⟩ := t U hU; ⟨ps, s' U _ z e1, e2⟩⟩
/-- count of a word -/
theorem ok_co {f fC fW fY : Addr} {fd fdC fdW fdY : FuncData} (F : Fun K "count" "count" sCo f fd) (N : Nm mg) (FC : Fun K "check_word" "check_word" sCw fC fdC) (bC : Binds K fdC ["word"] []) (gC : mg "check_word" = some (.ref fC))
    (FY : Fun K "ways_of" "ways_of" sWy fY fdY) (bY : Binds K fdY ["word"] []) (gY : mg "ways_of" = some (.ref fY))
    (FW : Fun K "ways_behind" "ways_behind" sWb fW fdW) (bW : Binds K fdW ["ways", "letter"] []) (gW : mg "ways_behind" = some (.ref fW)) : FnOk P w K mg base CX0 3 f fd ["word"] spCo := by
  have GC : FnOk P w K mg base CX0 1 fC fdC ["word"] spCw := ok_cw FC N
  have GY : FnOk P w K mg base CX0 2 fY fdY ["word"] (spWyC K) := ok_wyC FY N FW bW gW
  refine F.ok scCo (fun vs H Q E h => ?_) (fun cdv A outer s H vs Q E hr h => ?_)
  · obtain ⟨l, rfl, _⟩ := h
    rfl
  · obtain ⟨l, rfl, hl, q⟩ := h
    refine ⟨_, pss_cons (ps_expr (pe_call GC (hr.mono (by decide)) (by rfl) gC FC.kp bC .nil pass0 (pa_cons (pv 0) pa_nil)))
      (pss_one (ps_ret (pe_callB (cr_sum rfl) (by rfl) N.sum (by decide +kernel) (pa_cons (pe_call GY hr (by rfl) gY FY.kp bY .nil pass0 (pa_cons (pv 0) pa_nil)) pa_nil)))), ?_⟩
    refine ⟨_, rfl, l, rfl, by omega, ?_⟩
    exact ⟨_, rfl, l, rfl, hl, fun H3 p sm np hp => ⟨p, _, rfl, hp.sq, q H3 sm⟩⟩
end
/-- what the top has left, in the known part -/
structure Top (K : Frag) (w : World) (mg : Str → Option Value) : Prop where
  nm : Nm mg
  nsort : mg "sorted" = none
  ntup : mg "tuple" = none
  nval : mg "ValueError" = none
  tCr : ∃ p, tabIn K "check_row" = some p
  tCk : ∃ p, tabIn K "check_order" = some p
  ex : StdX K w mg
  cw : Std K mg "check_word" sCw
  iw : Std K mg "is_whole" sIw
  cr : Std K mg "check_row" sCr
  wb : Std K mg "ways_behind" sWb
  wy : Std K mg "ways_of" sWy
  co : Std K mg "count" sCo
  wo : Std K mg "word_of" sWo
  cn : Std K mg "check_number" sCn
  ck : Std K mg "check_order" sCk
  wa : Std K mg "ways_ahead" sWa
  ws : Std K mg "ways_shorter" sWs
  lr : Std K mg "least_rank" sLr
  of : Std K mg "order_of" sOf
  nf : Std K mg "number_of" sNf
  lo : Std K mg "longest" sLo
  ca : Std K mg "_law_cell_at" sCa
  dr : Std K mg "_law_draw" sDr
  lw : Std K mg "_law_word" sLw
  lc : Std K mg "_law_count" sLc
  fa : Std K mg "_law_far" sFa
  ki : Std K mg "_law_kinds" sKi
  ww : Std K mg "_law_with_word" sWw
  wr : Std K mg "_law_with_row" sWr
  to : Std K mg "_law_told" sTo
  al : Std K mg "_law_all" sAl
  og : Std K mg "_law_orders_right" sOg
  rr : Std K mg "_law_rows_right" sRr
  law : Std K mg "law" sLaw
  errs : ∃ cw cn co cr ce : Addr, ECls K mg "BadWord" cw ∧ ECls K mg "BadNumber" cn ∧ ECls K mg "BadOrder" co ∧ ECls K mg "BadRow" cr ∧ ECls K mg "RiseError" ce ∧ subIn K (.ref cw) (.ref cn) = some false ∧ subIn K (.ref cw) (.ref co) = some false ∧ subIn K (.ref cw) (.ref cr) = some false ∧ subIn K (.ref cw) (.ref ce) = some true ∧ subIn K (.ref cn) (.ref cw) = some false ∧ subIn K (.ref cn) (.ref co) = some false ∧ subIn K (.ref cn) (.ref cr) = some false ∧ subIn K (.ref cn) (.ref ce) = some true ∧ subIn K (.ref co) (.ref cw) = some false ∧ subIn K (.ref co) (.ref cn) = some false ∧ subIn K (.ref co) (.ref cr) = some false ∧ subIn K (.ref co) (.ref ce) = some true ∧ subIn K (.ref cr) (.ref cw) = some false ∧ subIn K (.ref cr) (.ref cn) = some false ∧ subIn K (.ref cr) (.ref co) = some false ∧ subIn K (.ref cr) (.ref ce) = some true
theorem excC_of {K : Frag} {mg : Str → Option Value} {x : Str} {C : Addr} (c : ECls K mg x C) : ExcC K C := ⟨c.hg, c.hk, c.hs, c.hd, c.ha, c.hn, c.ht, c.hm⟩
theorem law_for {l : OpenLaw} {w : World} {K : Frag} {h : Heap} {mg : Str → Option Value} {fa : Addr} (X : K.In h) (G : h.Ns mainGlobals mg) (hfa : mg "law" = some (.ref fa)) (t : Top K w mg) :
    LawFor l w K mg fa ["check_row", "check_order"] "_law_script" 10 spLaw := by
  obtain ⟨Nn, mSort, mTup, mVal, ⟨p1, hp1⟩, ⟨p2, hp2⟩, ⟨dx, es, en, EX⟩, ⟨acw, dcw, Fcw, gcw⟩, ⟨aiw, diw, Fiw, giw⟩, ⟨acr, dcr, Fcr, gcr⟩, ⟨awb, dwb, Fwb, gwb⟩, ⟨awy, dwy, Fwy, gwy⟩, ⟨aco, dco, Fco, gco⟩, ⟨awo, dwo, Fwo, gwo⟩, ⟨acn, dcn, Fcn, gcn⟩, ⟨ack, dck, Fck, gck⟩, ⟨awa, dwa, Fwa, gwa⟩, ⟨aws, dws, Fws, gws⟩, ⟨alr, dlr, Flr, glr⟩, ⟨aof, dof, Fof, gof⟩, ⟨anf, dnf, Fnf, gnf⟩, ⟨alo, dlo, Flo, glo⟩, ⟨aca, dca, Fca, gca⟩, ⟨adr, ddr, Fdr, gdr⟩, ⟨alw, dlw, Flw, glw⟩, ⟨alc, dlc, Flc, glc⟩, ⟨afa, dfa, Ffa, gfa⟩, ⟨aki, dki, Fki, gki⟩, ⟨aww, dww, Fww, gww⟩, ⟨awr, dwr, Fwr, gwr⟩, ⟨ato, dto, Fto, gto⟩, ⟨aal, dal, Fal, gal⟩, ⟨aog, dog, Fog, gog⟩, ⟨arr, drr, Frr, grr⟩, ⟨alaw, dlaw, Flaw, glaw⟩, cw, cn, co, cr, ce, Ew, En, Eo, Er, Ee, swn, swo, swr, swe, snw, sno, snr, sne, sow, son, sor, soe, srw, srn, sro, sre⟩ := t
  have e := law_fa Flaw glaw hfa
  subst e
  have cod1 := code_of X G Fcr gcr hp1
  have cod2 := code_of X G Fck gck hp2
  refine ⟨dlaw, [p1, p2], fun p hp => ?_, fun s u => bind1 Flaw (fun _ _ _ _ _ _ _ => rfl) s u, fun K' S base hb TB => ?_⟩
  · rcases List.mem_cons.mp hp with rfl | hp
    · exact ⟨_, List.mem_cons_self, hp1⟩
    · rw [List.mem_singleton.mp hp]
      exact ⟨_, List.mem_cons_of_mem _ List.mem_cons_self, hp2⟩
  have tb1 := TB p1 List.mem_cons_self
  have tb2 := TB p2 (List.mem_cons_of_mem _ List.mem_cons_self)
  have in1 : p1.2 ∈ [p1.2, p2.2] := List.mem_cons_self
  have in2 : p2.2 ∈ [p1.2, p2.2] := List.mem_cons_of_mem _ List.mem_cons_self
  show FnOk l.prog w K' mg base CX0 10 fa dlaw ["_law_script"] (spLaw K' [p1.2, p2.2])
  generalize hTs : [p1.2, p2.2] = Ts at in1 in2
  have EX' := exch_sub S EX
  have Xw : XCls K' mg "BadWord" cw := Ew.xcls S
  have Xn : XCls K' mg "BadNumber" cn := En.xcls S
  have Xo : XCls K' mg "BadOrder" co := Eo.xcls S
  have Xr : XCls K' mg "BadRow" cr := Er.xcls S
  have NE : NmE mg ⟨cw, cn, co, cr, ce⟩ := ⟨Ew.g, En.g, Eo.g, Er.g, Ee.g, mVal⟩
  have ew : Err1 K' ⟨cw, cn, co, cr, ce⟩ cw 0 := Err1.sub (c := ⟨cw, cn, co, cr, ce⟩) S ⟨excC_of Ew, kit_refs Ew Ew.sf, kit_refs En swn, kit_refs Eo swo, kit_refs Er swr, kit_value Ew⟩
  have mw : exmOne K' (.ref cw) (.ref ce) = some true := exm_ref (S.sub Ee.hs) (S.clsAny Ee.hd) (S.type Ee.ty (fun z => by cases z)) (S.sub swe)
  have en_ : Err1 K' ⟨cw, cn, co, cr, ce⟩ cn 1 := Err1.sub (c := ⟨cw, cn, co, cr, ce⟩) S ⟨excC_of En, kit_refs Ew snw, kit_refs En En.sf, kit_refs Eo sno, kit_refs Er snr, kit_value En⟩
  have mn : exmOne K' (.ref cn) (.ref ce) = some true := exm_ref (S.sub Ee.hs) (S.clsAny Ee.hd) (S.type Ee.ty (fun z => by cases z)) (S.sub sne)
  have eo : Err1 K' ⟨cw, cn, co, cr, ce⟩ co 2 := Err1.sub (c := ⟨cw, cn, co, cr, ce⟩) S ⟨excC_of Eo, kit_refs Ew sow, kit_refs En son, kit_refs Eo Eo.sf, kit_refs Er sor, kit_value Eo⟩
  have mo : exmOne K' (.ref co) (.ref ce) = some true := exm_ref (S.sub Ee.hs) (S.clsAny Ee.hd) (S.type Ee.ty (fun z => by cases z)) (S.sub soe)
  have er : Err1 K' ⟨cw, cn, co, cr, ce⟩ cr 3 := Err1.sub (c := ⟨cw, cn, co, cr, ce⟩) S ⟨excC_of Er, kit_refs Ew srw, kit_refs En srn, kit_refs Eo sro, kit_refs Er Er.sf, kit_value Er⟩
  have mr : exmOne K' (.ref cr) (.ref ce) = some true := exm_ref (S.sub Ee.hs) (S.clsAny Ee.hd) (S.type Ee.ty (fun z => by cases z)) (S.sub sre)
  have Dcw := S.fun_ Fcw
  have Diw := S.fun_ Fiw
  have Dcr := S.fun_ Fcr
  have Dwb := S.fun_ Fwb
  have Dwy := S.fun_ Fwy
  have Dco := S.fun_ Fco
  have Dwo := S.fun_ Fwo
  have Dcn := S.fun_ Fcn
  have Dck := S.fun_ Fck
  have Dwa := S.fun_ Fwa
  have Dws := S.fun_ Fws
  have Dlr := S.fun_ Flr
  have Dof := S.fun_ Fof
  have Dnf := S.fun_ Fnf
  have Dlo := S.fun_ Flo
  have Dca := S.fun_ Fca
  have Ddr := S.fun_ Fdr
  have Dlw := S.fun_ Flw
  have Dlc := S.fun_ Flc
  have Dfa := S.fun_ Ffa
  have Dki := S.fun_ Fki
  have Dww := S.fun_ Fww
  have Dwr := S.fun_ Fwr
  have Dto := S.fun_ Fto
  have Dal := S.fun_ Fal
  have Dog := S.fun_ Fog
  have Drr := S.fun_ Frr
  have Dlaw := S.fun_ Flaw
  have bcw := Dcw.binds (ps := ["word"]) fun _ _ _ _ _ _ us hl => match us, hl with | [_], _ => rfl
  have biw := Diw.binds (ps := ["value"]) fun _ _ _ _ _ _ us hl => match us, hl with | [_], _ => rfl
  have bcr := Dcr.binds (ps := ["row"]) fun _ _ _ _ _ _ us hl => match us, hl with | [_], _ => rfl
  have bwb := Dwb.binds (ps := ["ways", "letter"]) fun _ _ _ _ _ _ us hl => match us, hl with | [_, _], _ => rfl
  have bwy := Dwy.binds (ps := ["word"]) fun _ _ _ _ _ _ us hl => match us, hl with | [_], _ => rfl
  have bco := Dco.binds (ps := ["word"]) fun _ _ _ _ _ _ us hl => match us, hl with | [_], _ => rfl
  have bwo := Dwo.binds (ps := ["row"]) fun _ _ _ _ _ _ us hl => match us, hl with | [_], _ => rfl
  have bcn := Dcn.binds (ps := ["number", "many"]) fun _ _ _ _ _ _ us hl => match us, hl with | [_, _], _ => rfl
  have bck := Dck.binds (ps := ["word", "order"]) fun _ _ _ _ _ _ us hl => match us, hl with | [_, _], _ => rfl
  have bwa := Dwa.binds (ps := ["word"]) fun _ _ _ _ _ _ us hl => match us, hl with | [_], _ => rfl
  have bws := Dws.binds (ps := ["ways"]) fun _ _ _ _ _ _ us hl => match us, hl with | [_], _ => rfl
  have blr := Dlr.binds (ps := ["letter", "rank"]) fun _ _ _ _ _ _ us hl => match us, hl with | [_, _], _ => rfl
  have bof := Dof.binds (ps := ["word", "number"]) fun _ _ _ _ _ _ us hl => match us, hl with | [_, _], _ => rfl
  have bnf := Dnf.binds (ps := ["word", "order"]) fun _ _ _ _ _ _ us hl => match us, hl with | [_, _], _ => rfl
  have blo := Dlo.binds (ps := ["row"]) fun _ _ _ _ _ _ us hl => match us, hl with | [_], _ => rfl
  have bca := Dca.binds (ps := ["_law_script", "_law_k"]) fun _ _ _ _ _ _ us hl => match us, hl with | [_, _], _ => rfl
  have bdr := Ddr.binds (ps := ["_law_cell", "_law_k", "_law_many"]) fun _ _ _ _ _ _ us hl => match us, hl with | [_, _, _], _ => rfl
  have blw := Dlw.binds (ps := ["_law_script"]) fun _ _ _ _ _ _ us hl => match us, hl with | [_], _ => rfl
  have blc := Dlc.binds (ps := ["_law_word_here"]) fun _ _ _ _ _ _ us hl => match us, hl with | [_], _ => rfl
  have bfa := Dfa.binds (ps := ["_law_script", "_law_by", "_law_most"]) fun _ _ _ _ _ _ us hl => match us, hl with | [_, _, _], _ => rfl
  have bki := Dki.binds (ps := ["_law_error"]) fun _ _ _ _ _ _ us hl => match us, hl with | [_], _ => rfl
  have bww := Dww.binds (ps := ["_law_door", "_law_word_here"]) fun _ _ _ _ _ _ us hl => match us, hl with | [_, _], _ => rfl
  have bwr := Dwr.binds (ps := ["_law_door", "_law_row"]) fun _ _ _ _ _ _ us hl => match us, hl with | [_, _], _ => rfl
  have bto := Dto.binds (ps := ["_law_ask", "_law_one", "_law_other"]) fun _ _ _ _ _ _ us hl => match us, hl with | [_, _, _], _ => rfl
  have bal := Dal.binds (ps := ["_law_ask", "_law_doors", "_law_things", "_law_due"]) fun _ _ _ _ _ _ us hl => match us, hl with | [_, _, _, _], _ => rfl
  have bog := Dog.binds (ps := ["_law_word_here", "_law_order", "_law_due", "_law_far_here"]) fun _ _ _ _ _ _ us hl => match us, hl with | [_, _, _, _], _ => rfl
  have brr := Drr.binds (ps := ["_law_script", "_law_due", "_law_far_here"]) fun _ _ _ _ _ _ us hl => match us, hl with | [_, _, _], _ => rfl
  have bki2 : ∀ K'', RFI.Sub K' K'' → Binds K'' dki ["_law_error"] [] := fun K'' S' => (S'.fun_ Dki).binds (ps := ["_law_error"]) fun _ _ _ _ _ _ us hl => match us, hl with | [_], _ => rfl
  -- within
  have Gcr : FnOk l.prog w K' mg base CX0 2 acr dcr ["row"] (spCr K' p1.2) := ok_cr Dcr Nn cod1 tb1 Diw biw giw
  have GcrT : FnOk l.prog w K' mg base CX0 2 acr dcr ["row"] (spCrT K' Ts) := crT in1 Gcr
  have Gwo : FnOk l.prog w K' mg base CX0 3 awo dwo ["row"] (spWoT K' Ts) := woT in1 (ok_wo Dwo Nn Dcr bcr gcr Gcr)
  have Gwa : FnOk l.prog w K' mg base CX0 3 awa dwa ["word"] (spWa K') := ok_wa Dwa Nn EX' Dwy bwy gwy Dwb bwb gwb
  have Gcn : FnOk l.prog w K' mg base CX0 2 acn dcn ["number", "many"] spCn := ok_cn Dcn Nn Diw biw giw
  have Gof : FnOk l.prog w K' mg base CX0 4 aof dof ["word", "number"] (spOf K') := ok_of Dof Nn Dcw bcw gcw Dwa Gwa bwa gwa Dcn Gcn bcn gcn Dlr blr glr Dws bws gws
  have Gco : FnOk l.prog w K' mg base CX0 3 aco dco ["word"] spCo := ok_co Dco Nn Dcw bcw gcw Dwy bwy gwy Dwb bwb gwb
  have Gca : FnOk l.prog w K' mg base CX0 1 aca dca ["_law_script", "_law_k"] (spCa K') := ok_ca Dca Nn
  have Glw : FnOk l.prog w K' mg base CX0 2 alw dlw ["_law_script"] (spLw K') := ok_lw Dlw Nn Dca bca gca Ddr bdr gdr
  have Glc : FnOk l.prog w K' mg base CX0 1 alc dlc ["_law_word_here"] spLc := ok_lc Dlc Nn
  have Gfa : FnOk l.prog w K' mg base CX0 2 afa dfa ["_law_script", "_law_by", "_law_most"] (spFa K') := ok_fa Dfa Nn Ddr bdr gdr
  -- refused
  have Bcw : FnOk l.prog w K' mg base (L2N.CX l.prog w) 1 acw dcw ["word"] (spBad Ts (cdW cw)) := bad_cw Xw Dcw Nn
  have Bcr : FnOk l.prog w K' mg base (L2N.CX l.prog w) 2 acr dcr ["row"] (spBad Ts (cdR K' cr)) := bad_cr Xr Dcr Nn cod1 tb1 in1 Diw biw giw
  have Bcn : FnOk l.prog w K' mg base (L2N.CX l.prog w) 2 acn dcn ["number", "many"] (spBad Ts (cdN cn)) := bad_cn Xn Dcn Nn Diw biw giw
  have Bwo : FnOk l.prog w K' mg base (L2N.CX l.prog w) 3 awo dwo ["row"] (spBad Ts (cdO K' cr)) := bad_wo Xr Dwo Nn Dcr bcr gcr GcrT Bcr
  have Bck : FnOk l.prog w K' mg base (L2N.CX l.prog w) 4 ack dck ["word", "order"] (spBad Ts (cdK K' co)) := bad_ck Xo Dck Nn mSort cod2 tb2 in2 Diw biw giw Dwo Gwo bwo gwo
  have Bco : FnOk l.prog w K' mg base (L2N.CX l.prog w) 2 aco dco ["word"] (spBad Ts (cdW cw)) := bad_co Dco Dcw bcw gcw Bcw
  have Blo : FnOk l.prog w K' mg base (L2N.CX l.prog w) 3 alo dlo ["row"] (spBad Ts (cdR K' cr)) := bad_lo Dlo Dcr bcr gcr Bcr
  have Bof : FnOk l.prog w K' mg base (L2N.CX l.prog w) 4 aof dof ["word", "number"] (spBad Ts (cdOf cw cn)) := bad_of Dof Nn Dcw bcw gcw Bcw Dwa Gwa bwa gwa Dcn Bcn bcn gcn
  have Bnf : FnOk l.prog w K' mg base (L2N.CX l.prog w) 5 anf dnf ["word", "order"] (spBad Ts (cdNf K' cw co)) := bad_nf Dnf Nn Dcw bcw gcw Bcw Dck Bck bck gck
  have Bww : FnOk l.prog w K' mg base (L2N.CX l.prog w) 6 aww dww ["_law_door", "_law_word_here"] (spBad Ts (cdWw cw)) := bad_ww Dww Dco bco gco Bco Dof bof gof Bof Dnf bnf gnf Bnf
  have Bwr : FnOk l.prog w K' mg base (L2N.CX l.prog w) 4 awr dwr ["_law_door", "_law_row"] (spBad Ts (cdWr K' cr)) := bad_wr Dwr Dlo blo glo Blo Dwo bwo gwo Bwo
  -- what is asked
  let A : Addr → (List V → Hp → Addr → Prop) → Prop := fun g cd => (g = aww ∧ cd = cdWw cw) ∨ (g = aof ∧ cd = cdOf cw cn) ∨ (g = anf ∧ cd = cdNf K' cw co) ∨ (g = awr ∧ cd = cdWr K' cr)
  have hA : ∀ g cd, A g cd → HeldX l.prog w K' mg base 6 g (spBad Ts cd) := fun g cd h => by
    rcases h with ⟨h1, h2⟩ | ⟨h1, h2⟩ | ⟨h1, h2⟩ | ⟨h1, h2⟩ <;> rw [h1, h2]
    · exact ⟨_, _, Bww, Dww.kp, bww⟩
    · exact ⟨_, _, Bof.mono (by decide), Dof.kp, bof⟩
    · exact ⟨_, _, Bnf.mono (by decide), Dnf.kp, bnf⟩
    · exact ⟨_, _, Bwr.mono (by decide), Dwr.kp, bwr⟩
  have Gto : FnOk l.prog w K' mg base CX0 7 ato dto ["_law_ask", "_law_one", "_law_other"] (spTo K' ⟨cw, cn, co, cr, ce⟩ Ts A) := ok_to Dto Nn NE Dki bki2 gki hA (by decide)
  have Gal : FnOk l.prog w K' mg base CX0 8 aal dal ["_law_ask", "_law_doors", "_law_things", "_law_due"] (spAl K' ⟨cw, cn, co, cr, ce⟩ Ts A) := ok_al Dal Nn Dto bto gto Gto
  have Gog : FnOk l.prog w K' mg base CX0 8 aog dog ["_law_word_here", "_law_order", "_law_due", "_law_far_here"] (spOg K' ⟨cw, cn, co, cr, ce⟩ Ts) := ok_og Dog Nn mTup Dto bto gto Gto gnf (.inr (.inr (.inl ⟨rfl, rfl⟩))) eo mo
  have Grr : FnOk l.prog w K' mg base CX0 9 arr drr ["_law_script", "_law_due", "_law_far_here"] (spRr K' Ts) := ok_rr (c := ⟨cw, cn, co, cr, ce⟩) Drr Nn Dal bal gal Gal gwr (.inr (.inr (.inr ⟨rfl, rfl⟩))) er mr
  exact ok_law (c := ⟨cw, cn, co, cr, ce⟩) (S := A) Dlaw Nn Dca Gca bca gca Dlw Glw blw glw Dlc Glc blc glc Dfa Gfa bfa gfa Dto Gto bto gto Dal Gal bal gal Dog Gog bog gog Drr Grr brr grr Dof Gof bof gof Dwo Gwo bwo gwo Dco Gco bco gco gww (.inl ⟨rfl, rfl⟩) (.inr (.inl ⟨rfl, rfl⟩)) ew en_ mw mn
theorem end_by {q : Program} {loose : List Str} {XP : (Str → Option Value) → Heap → Prop} {K : Params → Frag} {as : List Addr} {N t : Nat} {d : DefRec} {l : OpenLaw}
    (hn : l.most = some 63) (hname : d.name = "law") (hdf : d.params.defaults = []) (ek : ∀ P, as = (K P).map (·.1)) (ht : 0 < t) (hrec : ∀ y ∈ (["check_row", "check_order"] : List Str), ((recsOf q).find? (fun e => e.name == y)).isSome = true)
    (facts : ∀ (w : World) (h : Heap) (mg : Str → Option Value), (K w.params).In h → h.Ns mainGlobals mg → Top (K w.params) w mg) :
    WalkX q loose XP (X.obsZ as) (X.valZ K N t) l.row.toRowW d [] (fun f vs => PySem.call f vs) := by
  refine attachT (l := l) (n := 63) (k := 10) (x := "_law_script") (names := ["check_row", "check_order"]) (sp := spLaw) hn (by decide) hdf ek ht ⟨rfl, by decide, by decide⟩ hrec
    (fun w h mg fa X G hfa => law_for X G (by rw [← hname]; exact hfa) (facts w h mg X G)) fun K' H a ns Ts hT hS hC hl hb => ?_
  exact ⟨a, ns, rfl, hS, hC, hT, hl, fun _ => rfl⟩
end K5
end
-- part K5Z
set_option Elab.async false
set_option linter.all false
set_option maxRecDepth 100000
open PySem PySem.W PySem.W.X PyProof.Rows
set_option maxHeartbeats 0 in
theorem PySem.Challenge.cw_risefall_k05_refused_holds : PySem.Challenge.rw_risefall_k05_refused.Holds := by
  w_on; o_law; z_head; (case hw => w_witness2)
  k_fill
  refine K5.end_by rfl rfl rfl (fun _ => rfl) (by decide) (by decide +kernel) ?facts
  case facts =>
    intro w h mg KX G
    refine ⟨⟨?_, ?_, ?_, ?_, ?_, ?_, ?_, ?_, ?_, ?_, ?_, ?_, ?_, ?_⟩, ?_, ?_, ?_, ?_, ?_, ?_, ?_, ?_, ?_, ?_, ?_, ?_, ?_, ?_, ?_, ?_, ?_, ?_, ?_, ?_, ?_, ?_, ?_, ?_, ?_, ?_, ?_, ?_, ?_, ?_, ?_, ?_, ?_, ?_, ?_⟩
    iterate 12 (· exact mg_none_of KX G (by k_is))
    iterate 2 (· exact mg_of KX G (by k_is))
    iterate 3 (· exact mg_none_of KX G (by k_is))
    iterate 2
      · refine' KEnd.tabMk ?a ?l ?c ?m ?e
        (case a => k_is)
        (case l => k_is)
        (case c => exact rfl)
        (case m => k_is)
        (case e => exact rfl)
    · refine' K5.stdXMk KX G ?a ?l ?k ?lo ?u ?v
      (case a => k_is)
      (case l => k_is)
      (case k => k_keys)
      (case lo => decide)
      (case u => k_is)
      (case v => k_is)
    iterate 28
      · refine' KEnd.stdMk KX G ?a ?l ?c ?k
        (case a => k_is)
        (case l => k_is)
        (case c => k_is)
        (case k => k_is)
    · refine' ⟨_, _, _, _, _, ?c1, ?c2, ?c3, ?c4, ?c5, ?_, ?_, ?_, ?_, ?_, ?_, ?_, ?_, ?_, ?_, ?_, ?_, ?_, ?_, ?_, ?_⟩
      case c1 => (refine' KEnd.eclsMk KX G ?a ?ex ?kp ?cl ?ty ?hg ?hk ?hs ?hd ?ha ?hn ?ht ?hm ?sv ?sf; (case a => k_is); (case ex => k_exc); (case kp => k_is); (case cl => k_is); (case ty => k_is); (case hg => k_is); (case hk => k_is); (case hs => k_is); (case hd => k_is); (case ha => k_is); (case hn => k_is); (case ht => k_is); (case hm => k_is); (case sv => k_is); (case sf => first | rfl | k_is))
      case c2 => (refine' KEnd.eclsMk KX G ?a ?ex ?kp ?cl ?ty ?hg ?hk ?hs ?hd ?ha ?hn ?ht ?hm ?sv ?sf; (case a => k_is); (case ex => k_exc); (case kp => k_is); (case cl => k_is); (case ty => k_is); (case hg => k_is); (case hk => k_is); (case hs => k_is); (case hd => k_is); (case ha => k_is); (case hn => k_is); (case ht => k_is); (case hm => k_is); (case sv => k_is); (case sf => first | rfl | k_is))
      case c3 => (refine' KEnd.eclsMk KX G ?a ?ex ?kp ?cl ?ty ?hg ?hk ?hs ?hd ?ha ?hn ?ht ?hm ?sv ?sf; (case a => k_is); (case ex => k_exc); (case kp => k_is); (case cl => k_is); (case ty => k_is); (case hg => k_is); (case hk => k_is); (case hs => k_is); (case hd => k_is); (case ha => k_is); (case hn => k_is); (case ht => k_is); (case hm => k_is); (case sv => k_is); (case sf => first | rfl | k_is))
      case c4 => (refine' KEnd.eclsMk KX G ?a ?ex ?kp ?cl ?ty ?hg ?hk ?hs ?hd ?ha ?hn ?ht ?hm ?sv ?sf; (case a => k_is); (case ex => k_exc); (case kp => k_is); (case cl => k_is); (case ty => k_is); (case hg => k_is); (case hk => k_is); (case hs => k_is); (case hd => k_is); (case ha => k_is); (case hn => k_is); (case ht => k_is); (case hm => k_is); (case sv => k_is); (case sf => first | rfl | k_is))
      case c5 => (refine' KEnd.eclsMk KX G ?a ?ex ?kp ?cl ?ty ?hg ?hk ?hs ?hd ?ha ?hn ?ht ?hm ?sv ?sf; (case a => k_is); (case ex => k_exc); (case kp => k_is); (case cl => k_is); (case ty => k_is); (case hg => k_is); (case hk => k_is); (case hs => k_is); (case hd => k_is); (case ha => k_is); (case hn => k_is); (case ht => k_is); (case hm => k_is); (case sv => k_is); (case sf => first | rfl | k_is))
      all_goals k_is
