import PyProof.Rows.All
import Wide.All
import OpenK.AllK
import Wide.FinOn
import HandS.ForMost
import HandS.Exc
import HandS.ExcOwn
import HandS.ExcIs
import HandS.ExcField
import HandS.ExcInit
import HandS.HotCalls
import HandS.WordsExc
import HandS.IsInst
import HandS.List
import KE.KExcIs
import PyProof.Rows.CountFlat
import HandS.Rev
import PyProof.JoinWalk
import PyProof.ReprDict
import HandS.Gcd
import HandS.Wide
import HandS.FStr
import HandS.StrMore
import HandS.Style
import HandS.NoneIn
import HandS.Defaults
import HandS.Spec
import HandS.Walk
import HandS.TupLe
import HandS.Text
import KE.KRevSl
import HandS.OwnEq
import PyProof.InstEq
import KE.KCallOwn
import HandS.Codes
import HandS.Iter
import HandS.Comp
import HandS.CallLocal
import PyProof.StrLawsRepr
import HandS.More
import HandS.TryOnly
import HandS.SortKw
import KE.KSortKey
import HandS.IntHex
import PyProof.StrLawsIn
import HandS.Lambda
import HandS.EndTab
import HandS.TupAny
import HandS.Zip
import KE.SortData
import HandS.MakeKw
import HandS.Flow
import KE.SortKeyHeap
import KE.DataCmp
import HandS.TupSets
import KE.DataEq
import HandS.DictSub
import KE.KFmtOwn
import PyProof.FString2
import KE.KExcInit
import HandS.ExcInitHot
import HandS.Dict
import PyProof.EqAt
import PyProof.NeKinds
import PyProof.EnumMake
import PyProof.Draws
import HandS.MakeKwOnly
import HandS.SortInts
import HandS.EndBits
import PySem.Challenge.RW_casknotes_k10_notes_equal_and_shown
set_option Elab.async false
set_option linter.all false
set_option maxRecDepth 100000
set_option maxHeartbeats 4000000
/-! repr of things, by the abstract heap: what is told of a value, beneath a running body whose guards are known -/
namespace Rp
open PySem PySem.Spec PyProof.Rows L2

/-- beneath X: room for n calls, X's frames, the guards that run -/
structure Low (X : Cx) (n : Nat) (g : List Code) (A : Around) : Prop where
  rm : Room n A
  fr : A.frames = X.A.frames
  gd : A.guards = some g
section
variable {X : Cx} {n m : Nat} {g : List Code} {A : Around} {a : Addr}
theorem Low.in1 (s : Low X (n + 1) g A) : Low X n g A.in1 := ⟨s.rm.in1, s.fr, s.gd⟩
theorem Low.mono (s : Low X n g A) (h : m ≤ n) : Low X m g A := ⟨s.rm.mono h, s.fr, s.gd⟩
theorem Low.guard {id : String} {v : Value} {us : List Value} (s : Low X (n + 1) g A)
    (hg : (Code.builtin id ⟨v :: us, []⟩).guards = [Code.builtin id ⟨v :: us, []⟩]) (hw : (Code.builtin id ⟨v :: us, []⟩).weight = 1) (hu : (Code.builtin id ⟨v :: us, []⟩).cUnits = 1)
    (he : (Code.builtin id ⟨v :: us, []⟩).envs = []) :
    Low X n (Code.builtin id ⟨v :: us, []⟩ :: g) (A.under (Code.builtin id ⟨v :: us, []⟩)) := by
  obtain ⟨⟨r1, r2, r3⟩, f, gd⟩ := s
  refine ⟨⟨r1, ?_, ?_⟩, ?_, ?_⟩
  · show A.depth + (Code.builtin id ⟨v :: us, []⟩).weight + 3 * n + 5 < _
    rw [hw]; omega
  · show A.units + (Code.builtin id ⟨v :: us, []⟩).cUnits + 16 * n + 200 < _
    rw [hu]; omega
  · show pushEnvs (Code.builtin id ⟨v :: us, []⟩).envs A.frames = _
    rw [he]; exact f
  · show pushGuards (Code.builtin id ⟨v :: us, []⟩).guards A.guards = _
    rw [hg, gd]; rfl
end

/-- what repr tells of v, at any heap grown from H -/
structure Says (X : Cx) (n : Nat) (as : List Addr) (H : Hp) (v : V) (t : Str) : Prop where
  und : ∀ (A : Around) (g : List Code) (base : Nat) (pins : List (Addr × Obj)) (s : Shared) (σ : L2.St) (H1 : Hp) (u : Value), Low X n g A → (∀ b ∈ as, Clear g b) → Inv X pins σ H1 s → Same H H1 → RelV v u → base + t.length ≤ sizeLine →
    wpAny (model X.prog X.w) A (pyReprUnder base u) (fun r s' => r = t ∧ ∃ H2, Inv X pins σ H2 s' ∧ Same H1 H2) X.xe s
  top : ∀ (A : Around) (g : List Code) (pins : List (Addr × Obj)) (s : Shared) (σ : L2.St) (H1 : Hp) (u : Value), Low X n g A → (∀ b ∈ as, Clear g b) → Inv X pins σ H1 s → Same H H1 → RelV v u → t.length ≤ sizeLine →
    wpAny (model X.prog X.w) A (call (.builtin "repr") [u]) (fun r s' => (∃ tk, r = .str t tk) ∧ ∃ H2, Inv X pins σ H2 s' ∧ Same H1 H2) X.xe s

section
variable {X : Cx} {n m : Nat} {as as' : List Addr} {H H' : Hp} {v : V} {t : Str} {a : Addr}
theorem Says.grow (h : Says X n as H v t) (e : Same H H') : Says X n as H' v t :=
  ⟨fun A g base pins s σ H1 u lo cl I x => h.und A g base pins s σ H1 u lo cl I (e.trans x), fun A g pins s σ H1 u lo cl I x => h.top A g pins s σ H1 u lo cl I (e.trans x)⟩
theorem Says.mono (h : Says X n as H v t) (hn : n ≤ m) (hs : ∀ b ∈ as, b ∈ as') : Says X m as' H v t :=
  ⟨fun A g base pins s σ H1 u lo cl => h.und A g base pins s σ H1 u (lo.mono hn) fun b hb => cl b (hs b hb), fun A g pins s σ H1 u lo cl => h.top A g pins s σ H1 u (lo.mono hn) fun b hb => cl b (hs b hb)⟩
theorem says_leaf (hi : ∀ u, RelV v u → ReprIs X.prog X.w u t) (ht : ∀ (A : Around) (E : Value → Shared → Prop) (s : Shared) (u : Value) (Q : Value → Shared → Prop), RelV v u → t.length ≤ sizeLine → Q (.str t s.toks) { s with toks := s.toks + 1 } → wpAny (model X.prog X.w) A (call (.builtin "repr") [u]) Q E s) :
    Says X 0 [] H v t :=
  ⟨fun A g base pins s σ H1 u _ _ I _ r hz => hi u r base hz A X.xe s _ fun tk => ⟨rfl, H1, I.tok tk, Same.refl H1⟩,
   fun A g pins s σ H1 u _ _ I _ r hz => ht A X.xe s u _ r hz ⟨⟨_, rfl⟩, H1, I.tok _, Same.refl H1⟩⟩
theorem says_bl (b : Bool) : Says X 0 [] H (.bl b) (if b then "True" else "False" : String) := by
  refine says_leaf (fun u r => ?_) fun A E s u Q r _ q => ?_
  · cases r
    have h := ReprIs.bool (prog := X.prog) (w := X.w) b
    cases b <;> exact h
  · cases r
    refine PySem.P.repr_of_bool ?_
    cases b <;> exact q
theorem says_non : Says X 0 [] H .non ("None" : String) := by
  refine says_leaf (fun u r => ?_) fun A E s u Q r _ q => ?_
  · cases r; exact ReprIs.none
  · cases r; exact PySem.P.repr_of_none q
theorem says_int {i : Int} (hi : i.natAbs.log2 < 1920) : Says X 0 [] H (.int i) (toString i) := by
  refine says_leaf (fun u r => ?_) fun A E s u Q r _ q => ?_
  · obtain ⟨tk, rfl⟩ := r; exact ReprIs.int tk hi
  · obtain ⟨tk, rfl⟩ := r; exact PySem.P.repr_of_int hi q
theorem says_str {x : Str} (hx : (reprText x).length ≤ sizeLine) : Says X 0 [] H (.str x) (reprText x) := by
  refine says_leaf (fun u r => ?_) fun A E s u Q r hz q => ?_
  · obtain ⟨tk, rfl⟩ := r; exact ReprIs.str x tk hx
  · obtain ⟨tk, rfl⟩ := r; exact PySem.P.repr_of_str q hz
end

/-! ### lists -/
section
variable {X : Cx} {n : Nat} {as : List Addr} {H : Hp} {a P : Addr} {xs : List V} {ts : List Str} {base : Nat} {g : List Code} {A : Around} {pins : List (Addr × Obj)} {σ : L2.St}
abbrev loopC (a P : Addr) (i k : Nat) : Code := .builtin "list.__repr__.loop" ⟨[.ref a, rawInt i, .ref P, rawInt (k : Int)], []⟩
theorem low_loop (lo : Low X (n + 1) g A) (i k : Nat) : Low X n (loopC a P i k :: g) (A.under (loopC a P i k)) :=
  lo.guard (by show (if Code.isGuard _ then _ else _) = _; rw [isGuard_list_loop]; rfl)
    (by simp only [Code.weight, isGuard_list_loop]; rfl)
    (by rfl) (by first | rfl | simp [Code.envs, Code.isFrame])
theorem lst_turns (lo : Low X (n + 1) g A) (hcl : ∀ b ∈ as, Clear g b) (hna : a ∉ as) (hit : ∀ (i : Nat) (x : V), xs[i]? = some x → ∃ t, ts[i]? = some t ∧ Says X n as H x t) (hl : ts.length = xs.length)
    (hsz : base + (listText ts).length ≤ sizeLine) (hq : SqL X.K H a xs) (haP : a ≠ P) {R : Result → Shared → Prop}
    (fin : ∀ s H2 u, Inv X pins σ H2 s → Same H H2 → R (.ok (.ret (.str (listText ts) u))) s) (bad : ∀ e s, X.xe e s → R (.error e) s) :
    ∀ (k i : Nat) (s : Shared) (H1 : Hp) (acc : Array Value) (c : Nat) (done : List (Str × Tok)), xs.length - i = k → i ≤ xs.length → Inv X pins σ H1 s → Same H H1 → FpOk X pins H1 P →
      s.heap.get? P = some { cls := .type "list", dict := none, data := .seq acc c, slots := #[] } → acc.toList = strValues done → done.map (·.1) = ts.take i →
      codeAny (model X.prog X.w) A (loopC a P i (base + piled (ts.take i))) R s := by
  have hL := textFrom_len ts 0 "["
  have hX : (listText ts).length = (textFrom 0 "[" ts).length + 1 := by
    unfold listText
    rw [strLen_append]; rfl
  have hsz0 : (listText ts).length ≤ sizeLine := by omega
  have small : ∀ t ∈ ts, t.length ≤ sizeLine := fun t ht => by
    have h2 := hL.2.1 t ht
    omega
  have hp3 := piled_le_listText ts
  have hn1 : xs.length ≤ sizeLine := by
    have h1 := hL.1
    rw [if_neg (Nat.lt_irrefl 0)] at h1
    omega
  intro k
  induction k with
  | zero =>
    intro i s H1 acc c done hk hi I hs fp hP hacc hdone
    have hin : i = xs.length := by omega
    obtain ⟨its, rv, pl, _⟩ := I.list (hs.seq hq)
    obtain ⟨oa, na, ho, _, _, hd⟩ := pl
    refine codeAny_builtin PySem.F.entry_list_repr_loop ?_
    show wpAny _ _ (Builtin.«list.__repr__.loop» ⟨[.ref a, .int i 0, .ref P, .int ((base + piled (ts.take i) : Nat) : Int) 0], []⟩) _ _ s
    rw [repr_loop_tree]
    refine wpAny_bind (wpAny_listItems ho hd ?_)
    have none_ : its.toArray[((i : Int)).toNat]? = none := by
      have := rv.length
      simp; omega
    simp only [none_]
    unfold reprEnd
    refine wpAny_bind (wpAny_listItems hP rfl ?_)
    rw [hacc, repr_fold]
    have hall : done.map (·.1) = ts := by rw [hdone, hin, ← hl, List.take_length]
    refine wpAny_bind (wpAny_pure ?_)
    rw [hall]
    exact wpAny_bind (wpAny_mkStr (wpAny_pure (fin _ H1 _ (I.tok _) hs)) hsz0)
  | succ k ih =>
    intro i s H1 acc c done hk hi I hs fp hP hacc hdone
    have hlt : i < xs.length := by omega
    obtain ⟨its, rv, pl, _⟩ := I.list (hs.seq hq)
    obtain ⟨oa, na, ho, _, _, hd⟩ := pl
    have hlt2 : i < its.length := by rw [← rv.length]; exact hlt
    obtain ⟨t, ht, hsay⟩ := hit i xs[i] (List.getElem?_eq_getElem hlt)
    obtain ⟨u, hu, ru⟩ := rv.get (List.getElem?_eq_getElem hlt)
    have hp1 := piled_take_succ ht
    have hp2 := piled_take_le ts (i + 1)
    refine codeAny_builtin PySem.F.entry_list_repr_loop ?_
    show wpAny _ _ (Builtin.«list.__repr__.loop» ⟨[.ref a, .int i 0, .ref P, .int ((base + piled (ts.take i) : Nat) : Int) 0], []⟩) _ _ s
    rw [repr_loop_tree]
    refine wpAny_bind (wpAny_listItems ho hd ?_)
    have some_ : its.toArray[i]? = some u := by simpa using hu
    simp only [Int.toNat_natCast, some_]
    obtain ⟨f0, f1, f2, f3, f4, f5⟩ := id fp
    have Ip : Inv X ((P, { cls := .type "list", dict := none, data := .seq acc c, slots := #[] }) :: pins) σ H1 s := I.pins_of fun p hp => by
      rcases List.mem_cons.mp hp with e | hp
      · rw [e]
        exact ⟨hP, f0, f1, f2, fun v z => by cases z⟩
      · exact I.pin p (List.mem_append_right _ hp)
    refine wpAny_bind (wpAny_holding (wpAny_mono (hsay.und (A.under (loopC a P i (base + piled (ts.take i)))) (loopC a P i (base + piled (ts.take i)) :: g) (base + piled (ts.take i) + 1) _ s σ H1 u (low_loop lo i _)
      (fun b hb => (hcl b hb).cons (a := a) fun e => hna (e ▸ hb)) Ip hs ru (by omega)) (fun r s2 hr => ?_) fun e s2 he => bad e s2 he))
    obtain ⟨er, H2, I2, e2⟩ := hr
    subst er
    obtain ⟨hP2, n2, _⟩ := I2.pin _ (List.mem_append_right _ List.mem_cons_self)
    have I3 : Inv X pins σ H2 s2 := I2.pins_of fun p hp => I2.pin p (List.mem_append_right _ (List.mem_cons_of_mem _ hp))
    refine wpAny_bind (wpAny_mkStr ?_ (small r (List.mem_of_getElem? ht)))
    refine wpAny_bind ?_
    show wpAny _ _ (updateSeq P _) _ _ _
    have hasz : acc.size ≤ sizeLine := by
      have e1 : acc.toList.length = acc.size := by simp
      have e3 : done.length = (ts.take i).length := by rw [← hdone, List.length_map]
      have e4 : (ts.take i).length ≤ i := by rw [List.length_take]; omega
      have e5 : (strValues done).length = done.length := by simp [strValues]
      rw [hacc] at e1; omega
    refine wpAny_updateSeq hP2 rfl (wpAny_pure ⟨PySem.F.quiet_list_repr_loop _, ?_⟩) hasz
    have e1 : ((i : Int) + 1) = ((i + 1 : Nat) : Int) := by omega
    have e3 : base + piled (ts.take i) + (r.length + 2) = base + piled (ts.take (i + 1)) := by omega
    rw [e1, e3]
    have fp2 : FpOk X pins H2 P := ⟨n2, f1, f2, f3, f4, f5⟩
    refine ih (i + 1) _ H2 (acc.push (.str r s2.toks)) _ (done ++ [(r, s2.toks)]) (by omega) hlt ((I3.tok (s2.toks + 1)).turned (t' := s2.toks + 1) (it := P) (fun b o hb e => ?_) n2 f1 f3 f4 f5) (hs.trans e2) fp2 (Heap.get?_update_self _ hP2 rfl) ?_ ?_
    · exact (Heap.get?_update_other _ _ (fun z : P = b => hb z.symm)).trans e
    · simp [hacc, strValues]
    · rw [List.map_append, hdone, List.take_add_one, ht]
      rfl

/-- the body of list.__repr__, of any base -/
theorem lst_body (lo : Low X (n + 1) g A) (hcl : ∀ b ∈ a :: as, Clear g b) (hna : a ∉ as) (hit : ∀ (i : Nat) (x : V), xs[i]? = some x → ∃ t, ts[i]? = some t ∧ Says X n as H x t) (hl : ts.length = xs.length)
    (hsz : base + (listText ts).length ≤ sizeLine) (hq : SqL X.K H a xs) {s : Shared} {H1 : Hp} (I : Inv X pins σ H1 s) (hs : Same H H1) {R : Result → Shared → Prop}
    (fin : ∀ s H2 u, Inv X pins σ H2 s → Same H1 H2 → R (.ok (.ret (.str (listText ts) u))) s) (bad : ∀ e s, X.xe e s → R (.error e) s) :
    wpAny (model X.prog X.w) A.in1 (Builtin.listReprAt base ⟨[.ref a], []⟩) (fun fin s' => match fin with | .done f => R (.ok f) s' | .again c' => c'.quiet = true ∧ codeAny (model X.prog X.w) A c' R s') (fun e s' => R (.error e) s') s := by
  obtain ⟨its, rv, pl, _⟩ := I.list (hs.seq hq)
  obtain ⟨oa, na, ho, hc, _, hd⟩ := id pl
  have hca : Clear g a := hcl a List.mem_cons_self
  cases its with
  | nil =>
    cases rv
    have e : ts = [] := List.length_eq_zero_iff.mp hl
    subst e
    refine wpAny_list_repr_empty ho hd ?_
    have q := fin _ H1 s.toks (I.tok (s.toks + 1)) (Same.refl H1)
    rw [listText_nil] at q
    exact q
  | cons y its =>
    refine wpAny_list_repr_head (A := A.in1) lo.gd (fun v rest kw hm => listSameRef_of_ne (hca _ _ _ _ hm)) ho hd ?_
    refine wpAny_bind (m := newList []) (wpAny_newObj_type ?_)
    refine wpAny_pure ⟨PySem.F.quiet_list_repr_loop _, ?_⟩
    have fp := I.fpOk (H' := H1) (Nat.le_refl _) (I.hok.fresh (Nat.le_refl _))
    have q := lst_turns (P := s.heap.objs.size) (R := R) lo (fun b hb => hcl b (List.mem_cons_of_mem _ hb)) hna (fun i x h => let ⟨t, h1, h2⟩ := hit i x h; ⟨t, h1, h2.grow hs⟩) hl hsz (hs.seq hq) (Nat.ne_of_lt (Heap.lt_size ho)) fin bad
      xs.length 0 { s with heap := s.heap.push { cls := .type "list", dict := none, data := .seq [].toArray } } H1 #[] _ [] rfl (Nat.zero_le _) (I.kept (t' := s.toks) fun b o e => Heap.get?_push_of_some _ e) (Same.refl H1) fp (Heap.get?_push_size _ rfl) rfl rfl
    rw [show base + piled (List.take 0 ts) = base by simp [piled]] at q
    exact q
theorem says_lst (hq : SqL X.K H a xs) (hna : a ∉ as) (hl : ts.length = xs.length) (hit : ∀ (i : Nat) (x : V), xs[i]? = some x → ∃ t, ts[i]? = some t ∧ Says X n as H x t) : Says X (n + 2) (a :: as) H (.ref a) (listText ts) := by
  refine ⟨fun A g base pins s σ H1 u lo cl I hs ru hz => ?_, fun A g pins s σ H1 u lo cl I hs ru hz => ?_⟩
  · cases ru
    obtain ⟨its, rv, ⟨oa, na, ho, hc, _, hd⟩, _⟩ := I.list (hs.seq hq)
    refine wpAny_pyReprUnder_ref (by omega) (wpAny_pyReprObjUnder_twin (twin := "list.__repr__.under") ⟨oa, ho, hc⟩ PySem.F.slot_list_repr.toG rfl lo.rm.units0
      (call_twin_plain PySem.F.plain_list_repr_under PySem.F.entry_list_repr_under PySem.F.check_list_repr_under ⟨oa, ho, hc⟩ PySem.F.slot_list_repr.toG (PySem.F.args_list_repr_1 _) ?_))
    exact lst_body (R := callEnd _ _) (lo.mono (by omega)) cl hna hit hl hz hq I hs (fun s2 H2 tk I2 e2 => ⟨⟨_, _, rfl⟩, _, _, rfl, rfl, H2, I2, e2⟩) fun e s2 he => he
  · cases ru
    obtain ⟨its, rv, ⟨oa, na, ho, hc, _, hd⟩, _⟩ := I.list (hs.seq hq)
    have h1 := lo.rm.units
    refine call_repr_slot (by omega) ⟨oa, ho, hc⟩ PySem.F.slot_list_repr.toG (wpAny_call (codeAny_call_builtin PySem.F.slot_list_repr.plain PySem.F.entry_list_repr (PySem.F.slot_list_repr.check _ _ _ _ _ _ _ _ ⟨oa, ho, hc⟩ (PySem.F.args_list_repr_1 _) ?_)))
    exact lst_body (A := A.in1) (base := 0) (R := callEnd _ _) lo.in1 cl hna hit hl (by omega) hq I hs (fun s2 H2 tk I2 e2 => ⟨_, _, rfl, ⟨_, rfl⟩, H2, I2, e2⟩) fun e s2 he => he
end

/-! ### instances of an own class with an own __repr__ -/
section
variable {X : Cx} {n : Nat} {H : Hp} {a C dx f : Addr} {fs : List (Str × V)} {fd : FuncData} {ps : List Str} {sp : Sp} {CX : CXT} {E : XK} {t : Str} {g : List Code} {A : Around} {pins : List (Addr × Obj)} {σ : L2.St} {s : Shared}
/-- a method of one argument, called from beneath X -/
theorem own_run (F : FnOk X.prog X.w X.K X.mg X.base CX n f fd ps sp) (hb : Binds X.K fd ps []) (hx : Passes CX X E) (lo : Low X n g A) (I : Inv X pins σ H s) {Q : VK} (hsp : sp [.ref a] H Q E) :
    wpAny (model X.prog X.w) A (call (.ref f) [.ref a]) (EP X pins σ Q) X.xe s := by
  have e := I.env0
  have e0 : Env0 X.prog X.w X.K X.mg X.base A X.stack s H := ⟨lo.fr.trans e.frames, e.mod, e.bs, e.bsz, e.funs, e.frf, e.hok, e.bare⟩
  have hl := F.len _ _ _ _ hsp
  have bt := hb s [.ref a] I.kIn (by simpa using hl)
  rw [List.append_nil] at bt
  refine wpAny_call (codeAny_mono (F.run A X.stack s H ⟨[.ref a], []⟩ [.ref a] [.ref a] Q E lo.rm e0 bt (.cons rfl .nil) hsp) fun r s' hq => ?_)
  match r, hq with
  | .error e, hq => exact hx pins σ H s e s' I hq
  | .ok (.ret w), hq => exact I.after hq
theorem own_by {M : Model} {last : Value → List Value → Sem Value} {Q : Option Value → Shared → Prop} {E : Value → Shared → Prop} {K : PySem.W.Frag} {x : Addr} {ox : Obj} {od : Option Obj} {name : Str} (kx : K.In s.heap) (J : PySem.W.InstAt s.heap x ox C od)
    (hs : PySem.W.findIn K (.ref C) name = some (some (.ref f))) (hf : PySem.W.isFn K (.ref f) = true) (h : wpAny M A (last (.ref f) [.ref x]) (fun v => Q (some v)) E s) : wpAny M A (callSpecialIfBoundBy? last (.ref x) name) Q E s := by
  have done : wpAny M A (last (.ref f) [.ref x] >>= fun v => pure (some v)) Q E s := wpAny_bind (wpAny_mono h (fun _ _ q => wpAny_pure q) fun _ _ q => q)
  have bd := PySem.W.bind_fn (M := M) kx (.ref x) (beq_iff_eq.mp hf)
  simp only [callSpecialIfBoundBy?, bindSpecialIfBound?]
  refine wpAny_holding (wpAny_bind (wpAny_bind (wpAny_bind (J.type.here ((PySem.W.looks_findIn kx hs).here (wpAny_bind (wpAny_askSetting (wpAny_ite ?_))))))))
  split
  · exact wpAny_bind (bd.here (wpAny_pure done))
  · exact wpAny_tryCatch (wpAny_bind (bd.here (wpAny_pure done)))
theorem says_own (F : FnOk X.prog X.w X.K X.mg X.base CX n f fd ps sp) (hs : PySem.W.findIn X.K (.ref C) "__repr__" = some (some (.ref f))) (hf : PySem.W.isFn X.K (.ref f) = true) (hb : Binds X.K fd ps []) (hx : Passes CX X E)
    (ha : H a = some (.ins C dx fs)) (hsp : ∀ H1, Same H H1 → sp [.ref a] H1 (fun v H2 => v = .str t ∧ Same H1 H2) E) : Says X (n + 1) [] H (.ref a) t := by
  have turn : ∀ {A : Around} {g : List Code} {pins : List (Addr × Obj)} {s : Shared} {σ : L2.St} {H1 : Hp}, Low X n g A → Inv X pins σ H1 s → Same H H1 →
      wpAny (model X.prog X.w) A (call (.ref f) [.ref a]) (fun r s' => ∃ tk, r = .str t tk ∧ ∃ H2, Inv X pins σ H2 s' ∧ Same H1 H2) X.xe s := fun lo I e =>
    wpAny_mono (own_run F hb hx lo I (hsp _ e)) (fun r s' q => by
      obtain ⟨v, H2, I2, r2, ev, e2⟩ := q
      subst ev
      obtain ⟨tk, rfl⟩ := r2
      exact ⟨tk, rfl, H2, I2, e2⟩) fun _ _ q => q
  refine ⟨fun A g base pins s σ H1 u lo cl I e ru hz => ?_, fun A g pins s σ H1 u lo cl I e ru hz => ?_⟩
  · cases ru
    obtain ⟨mA, O, _⟩ := ins_get I.hok (e _ _ ha)
    obtain ⟨od, J, _⟩ := O.look
    have hu := lo.rm.units0
    refine wpAny_pyReprUnder_ref (by omega) ?_
    unfold pyReprObjUnder pyReprObjBy
    refine wpAny_bind (wpAny_cRoomFor hu (wpAny_bind (wpAny_bind (J.type.here ((PySem.W.looks_findIn I.kIn hs).here ?_)))))
    show wpAny _ _ (if (some (Value.ref f)).isNone = true then _ else _) _ _ _
    rw [if_neg (by simp)]
    refine wpAny_bind (own_by I.kIn J hs hf ?_)
    show wpAny _ _ (call (.ref f) [.ref a]) _ _ _
    refine wpAny_mono (turn (lo.mono (Nat.le_succ n)) I e) (fun r s2 q => ?_) fun _ _ q => q
    obtain ⟨tk, rfl, q⟩ := q
    exact wpAny_bind (wpAny_isInstance (typeIs_str _ _ _) isSubtype_str_str (wpAny_pure ⟨t, tk, rfl, rfl, q⟩))
  · cases ru
    obtain ⟨mA, O, _⟩ := ins_get I.hok (e _ _ ha)
    obtain ⟨od, J, _⟩ := O.look
    obtain ⟨m, hF⟩ := I.fr
    refine PySem.W.repr_K lo.in1.rm.units0 hF I.ok.mod.kin J hs hf (wpAny_mono (turn lo.in1 I e) (fun r s2 q => ?_) fun _ _ q => q)
    obtain ⟨tk, rfl, q⟩ := q
    exact ⟨⟨tk, rfl⟩, q⟩
end

/-! ### repr(x) in a body whose guards are known to be none -/
section
variable {X : Cx}
def rRepr (X : Cx) (n : Nat) : List V → Hp → VK → Prop := fun vs H Q => ∃ (v : V) (t : Str) (as : List Addr), vs = [v] ∧ Says X n as H v t ∧ t.length ≤ sizeLine ∧ ∀ H2, Same H H2 → Q (.str t) H2
theorem cr_repr {n : Nat} (hr : Room n X.A) (hg : X.A.guards = some []) : CallR X (.builtin "repr") (rRepr X n) := by
  intro pins s σ H vs us Q I r h
  obtain ⟨v, t, as, rfl, hv, hz, q⟩ := h
  obtain ⟨u, rfl, ru⟩ := vals1 r
  refine wpAny_mono (hv.top X.A [] pins s σ H u ⟨hr, rfl, hg⟩ (fun b _ => Clear.nil b) I (Same.refl H) ru hz) (fun w s2 k => ?_) fun _ _ k => k
  obtain ⟨⟨tk, rfl⟩, H2, I2, e2⟩ := k
  exact ⟨.str t, H2, I2, ⟨tk, rfl⟩, q H2 e2⟩
/-- repr(True), repr(False): whatever guards run -/
theorem cr_reprB : CallR X (.builtin "repr") (fun vs H Q => ∃ b : Bool, vs = [.bl b] ∧ Q (.str (if b then "True" else "False" : String)) H) := by
  intro pins s σ H vs us Q I r h
  obtain ⟨b, rfl, q⟩ := h
  obtain ⟨u, rfl, ru⟩ := vals1 r
  cases ru
  refine PySem.P.repr_of_bool ⟨.str (if b then "True" else "False" : String), H, I.tok _, ⟨s.toks, ?_⟩, q⟩
  cases b <;> rfl
end
end Rp
/-! defs that know that no guard runs around them, and the law's end for such a def -/
namespace Rp
open PySem PySem.Spec PyProof.Rows L2
/-- the promise of a def, where no guard runs around the call -/
structure FnG (P : Program) (w : World) (K : PySem.W.Frag) (mg : Str → Option Value) (base : Heap) (CX : CXT) (k : Nat) (f : Addr) (fd : FuncData) (ps : List Str) (sp : Sp) : Prop where
  len : ∀ vs H Q E, sp vs H Q E → vs.length = ps.length
  go : ∀ (A : Around) (outer : List Env) (s : Shared) (H : Hp) (args : Args) (us : List Value) (vs : List V) (Q : VK) (E : XK), A.guards = some [] → Room k A →
    Env0 P w K mg base A outer s H → BindsTo s fd args (ps.zip us) → Vals vs us → sp vs H Q E → codeAny (model P w) A (.call (.ref f) args) (CR CX outer P w H s Q E) s
section
variable {P : Program} {w : World} {K : PySem.W.Frag} {mg : Str → Option Value} {base : Heap} {CX : CXT} {k : Nat} {f : Addr} {fd : FuncData} {ps : List Str} {sp : Sp}
theorem FnG.of (F : FnOk P w K mg base CX k f fd ps sp) : FnG P w K mg base CX k f fd ps sp := ⟨F.len, fun A outer s H args us vs Q E _ => F.run A outer s H args us vs Q E⟩
/-- a def by its body; the body may use that no guard runs -/
theorem fn_bodyG {name qual : Str} {params : Arguments} {body : List Stmt} {scope : Scope} {dV kV doc pm cdv ct oc : Value} {an od : Option Addr} {osl : Array (Option Value)} {N : List Str}
    (lk : K.lookup f = some ⟨oc, od, .func (PySem.W.fnOf name qual params body scope dV kV doc pm an cdv ct), osl⟩) (hcd : PySem.W.codeIn K cdv qual = true) (S : FnScope N ps scope) (len : ∀ vs H Q E, sp vs H Q E → vs.length = ps.length)
    (hbody : ∀ (A : Around) (outer : List Env) (s : Shared) (H : Hp) (vs : List V) (Q : VK) (E : XK), A.guards = some [] → Room k (A.deeper (envOfC qual scope s.heap.objs.size f cdv)) → sp vs H Q E →
      ∃ t, PSs (cxOf CX P w K mg base N qual scope f cdv A outer s H E) body t ∧ t { nx := fun _ H' => Q .non H', rt := Q } (start N vs) H) :
    FnG P w K mg base CX (k + 1) f (PySem.W.fnOf name qual params body scope dV kV doc pm an cdv ct) ps sp := by
  refine ⟨len, fun A outer s H args us vs Q E gd hr e0 hb rv hsp => ?_⟩
  have here : ∀ b o, base.get? b = some o → s.heap.get? b = some o := fun b o e => (e0.bs b o e).1
  have kx : K.In s.heap := e0.mod.kin.keeps here
  have lim : s.heap.NoLimit := e0.mod.nolimit.keeps here
  have kinds : ∀ y ∈ ps.zip us, scope.names.lookup y.1 = some .local ∨ (scope.names.lookup y.1 = some .cell ∧ ((cellsFrom (s.heap.objs.size + 1) scope.names []).lookup y.1).isSome = true) := by
    rintro ⟨n, v⟩ hy
    exact (S.par n (List.of_mem_zip hy).1).imp id fun q => ⟨q, PySem.W.cellsFrom_some _ _ _ (.inl q)⟩
  refine codeAny_call_function hr.depth (kx _ _ lk) rfl S.co S.gen rfl (PySem.W.codeRec_of kx hcd) (hb _ _ _ _ (wpAny_newFunctionEnv_cells S.kind kinds fun env he s1 ic => ?_))
  subst he
  refine ⟨lim.keeps ic.toInCall.keep, codeAny_func ?_⟩
  obtain ⟨t, ht, hq⟩ := hbody A outer s H vs Q E gd (hr.deeper _) hsp
  have I : L2.Inv (cxOf CX P w K mg base N qual scope f cdv A outer s H E) [] (start N vs) H s1 := inv_start S hr.hd e0 (len _ _ _ _ hsp) rv ic
  refine wpAny_mono (ht.run [] s1 (start N vs) H _ I hq) (fun fl s' hs => ?_) fun e s' hs => hs
  cases fl with
  | next =>
    obtain ⟨σ', H', J, q⟩ := hs
    exact ⟨V.non, H', J.os, J.bare, J.base, J.hok, (rfl : RelV .non Value.none), q⟩
  | ret u =>
    obtain ⟨v, σ', H', J, rv, q⟩ := hs
    exact ⟨v, H', J.os, J.bare, J.base, J.hok, rv, q⟩
  | brk => exact hs.elim fun _ z => z.elim fun _ z => z.2.elim
  | cont => exact hs.elim fun _ z => z.elim fun _ z => z.2.elim
theorem Fun_okG {x qual : Str} {st : Stmt} {N : List Str} (F : Fun K x qual st f fd) (S : FnScope N ps (defScope st)) (len : ∀ vs H Q E, sp vs H Q E → vs.length = ps.length)
    (body : ∀ (cdv : Value) (A : Around) (outer : List Env) (s : Shared) (H : Hp) (vs : List V) (Q : VK) (E : XK), A.guards = some [] →
      Room k (A.deeper (envOfC qual (defScope st) s.heap.objs.size f cdv)) → sp vs H Q E →
      ∃ t, PSs (cxOf CX P w K mg base N qual (defScope st) f cdv A outer s H E) (defBody st) t ∧ t { nx := fun _ H' => Q .non H', rt := Q } (start N vs) H) : FnG P w K mg base CX (k + 1) f fd ps sp := by
  obtain ⟨oc, od, kV, doc, pm, an, cdv, ct, osl, rfl, lk, hcd⟩ := F.ex
  exact fn_bodyG lk hcd S len fun A outer s H vs Q E gd hr hsp => body cdv A outer s H vs Q E gd hr hsp
theorem Fun_okG0 {x qual : Str} {st : Stmt} {N : List Str} (F : Fun K x qual st f fd) (S : FnScope N ps (defScope st)) (len : ∀ vs H Q E, sp vs H Q E → vs.length = ps.length)
    (body : ∀ (cdv : Value) (A : Around) (outer : List Env) (s : Shared) (H : Hp) (vs : List V) (Q : VK) (E : XK), A.guards = some [] →
      Room k (A.deeper (envOfC qual (defScope st) s.heap.objs.size f cdv)) → sp vs H Q E →
      ∃ t, PSs (cxOf CX0 P w K mg base N qual (defScope st) f cdv A outer s H E).nox (defBody st) t ∧ t { nx := fun _ H' => Q .non H', rt := Q } (start N vs) H) : FnG P w K mg base CX0 (k + 1) f fd ps sp :=
  Fun_okG F S len fun cdv A outer s H vs Q E gd hr hsp => let ⟨t, h, q⟩ := body cdv A outer s H vs Q E gd hr hsp; ⟨t, h.nox, q⟩
end

/-! ### the call of such a def -/
section
variable {X : Cx} {CX : CXT} {k : Nat} {f : Addr} {fd : FuncData} {ps : List Str} {sp : Sp} {dvs : List V} {ds : List Value} {E : XK} {x : Str} {p pos : Pos} {e : Expr} {es : List Expr} {t : TA}
theorem run_fnG {pins : List (Addr × Obj)} {σ : L2.St} {H : Hp} {s : Shared} {Q : VK} {us : List Value} {vs : List V} (F : FnG X.prog X.w X.K X.mg X.base CX k f fd ps sp) (hg : X.A.guards = some []) (hr : Room k X.A) (hb : Binds X.K fd ps ds) (hd : Vals dvs ds)
    (hx : Passes CX X E) (I : Inv X pins σ H s) (r : Vals vs us) (h : sp (vs ++ dvs) H Q E) : wpAny (model X.prog X.w) X.A (call (.ref f) us) (EP X pins σ Q) X.xe s := by
  have all := r.append hd
  have hl := all.length.symm.trans (F.len _ _ _ _ h)
  refine wpAny_call (codeAny_mono (F.go X.A X.stack s H ⟨us, []⟩ (us ++ ds) (vs ++ dvs) Q E hg hr I.env0 (hb s us I.kIn hl) all h) fun r s' hq => ?_)
  match r, hq with
  | .error e, hq => exact hx pins σ H s e s' I hq
  | .ok (.ret u), hq => exact I.after hq
theorem pe_callG (F : FnG X.prog X.w X.K X.mg X.base CX k f fd ps sp) (hgd : X.A.guards = some []) (hr : Room k X.A) (hg : Gl X x) (hm : X.mg x = some (.ref f)) (hk : PySem.W.keepIn X.K (.ref f) = true) (hb : Binds X.K fd ps ds) (hd : Vals dvs ds) (hx : Passes CX X E)
    (ha : PA X (e :: es) t) (hdb : (x == ("__debug__" : Str)) = false := by decide) (he : starEach (e :: es) X.env = (false, eval e X.env) :: starEach es X.env := by rfl) (hpl : (backTo pos (starEach es X.env)).any (·.1) = false := by rfl) :
    PE X (.Call (.Name x p) (e :: es) [] pos) (tCall sp dvs E t) :=
  ⟨fun pins s σ H Q I h => wpAny_Call_Name_kw (ld_glob I hg hm (PySem.W.callWith_K (h₀ := X.base) I.ok.mod.kin hk (thn (ha.run pos pins s σ H _ I h) fun us s1 ⟨vs, H1, I1, r, q⟩ => ⟨I1.kIn, run_fnG F hgd hr hb hd hx I1 r q⟩) he hpl) hdb)⟩
end

/-! ### the law's end -/
/-- what stands tracked at the law's entry: the script alone, or nothing -/
def atScript (a : Addr) (u : HO) : Hp := fun b => if b = a then some u else none
theorem law_atG {P : Program} {w : World} {K : PySem.W.Frag} {mg mb : Str → Option Value} {CX : CXT} {k : Nat} {fa a : Addr} {fd : FuncData} {x : Str} {sp : Sp} {s₁ : Shared} {vs : List Value} {ns : List Int}
    (KX : K.In s₁.heap) (hns : s₁.heap.Ns mainGlobals mg) (hb : s₁.heap.Ns builtinsNs mb) (hbb : ∀ x : Str, x ≠ "__name__" → mb x = bootBuiltins x) (hlim : s₁.heap.NoLimit) (hg : s₁.gens = #[])
    (ha : s₁.heap.get? a = some { cls := .type "list", data := .seq vs.toArray }) (hr : Room k callerA)
    (F : ∀ base : Heap, K.In base → base.Ns mainGlobals mg → FnG P w K mg base CX k fa fd [x] sp) (hbind : ∀ (s : Shared) (u : Value), BindsTo s fd ⟨[u], []⟩ [(x, u)])
    (hCX : ∀ H e s', CX [] H s₁ (fun _ _ _ => False) e s' → False) (H : Hp) (hA : ∀ b, H b ≠ none → b = a) (hF : ∀ u, H a = some u → ∃ o xs, u = .frz o (.lst xs)) (hok : HOk P w H s₁.heap) (hK : H a ≠ none → K.lookup a = none)
    (hsp : sp [.ref a] H (fun v _ => v = .bl true) fun _ _ _ => False) :
    codeAny (model P w) callerA (.call (.ref fa) ⟨[.ref a], []⟩) (fun r s' => r = .ok (.ret (.bool true)) ∧ OldK s₁.heap s'.heap ∧ s'.os = s₁.os ∧ AllBare s'.gens) s₁ := by
  have split : ∀ b u, H b = some u → b = a := fun b u e => hA b fun z => by rw [z] at e; cases e
  have dictless : ∀ {b : Addr} {o : Obj} {es : Array DictEntry} {ep : Nat}, s₁.heap.get? b = some o → o.data = .dict es ep → H b = none := fun {b o es ep} e d => by
    cases q : H b with
    | none => rfl
    | some u =>
      have z := split b u q
      subst z
      rw [ha] at e
      cases e
      cases (show Data.seq vs.toArray _ = Data.dict es ep from d)
  have names : ∀ {b : Addr} {m : Str → Option Value}, s₁.heap.Ns b m → (hidT s₁.heap H).Ns b m := fun {b m} h => by
    obtain ⟨o, es, ep, e, d, r⟩ := h
    exact ⟨o, es, ep, hidT_get e (dictless e d), d, r⟩
  have kb : K.In (hidT s₁.heap H) := fun b o e => hidT_get (KX b o e) (by
    cases q : H b with
    | none => rfl
    | some u =>
      have z := split b u q
      subst z
      rw [hK fun z => by rw [q] at z; cases z] at e
      cases e)
  have M : Mod K mg (hidT s₁.heap H) := by
    obtain ⟨mc, h1, h2⟩ := hlim
    exact ⟨kb, names hns, ⟨mb, names hb, hbb⟩, ⟨mc, names h1, h2⟩⟩
  have e0 : Env0 P w K mg (hidT s₁.heap H) callerA [] s₁ H :=
    { frames := rfl, mod := M, bs := fun b o e => of_hidT e, bsz := Nat.le_of_eq (hidT_size _ _), funs := trivial, frf := fun b hb => (by simp [frs] at hb), hok := hok, bare := .of_eq hg }
  refine codeAny_mono ((F _ kb (names hns)).go callerA [] s₁ H ⟨[.ref a], []⟩ [.ref a] [.ref a] _ _ rfl hr e0 (hbind s₁ (.ref a)) (.cons rfl .nil) hsp) fun r s' h => ?_
  match r, h with
  | .error e, h => exact (hCX H e s' h).elim
  | .ok (.ret u), ⟨v, H', os, bare, un, hok', rv, q⟩ =>
    have ev : v = .bl true := q
    subst ev
    have eu : u = Value.bool true := rv
    subst eu
    refine ⟨rfl, OldK.of_keep fun b o e => ?_, os, bare⟩
    cases z : H b with
    | none => exact un.keep b o e z (by simp [frs]) (by simp)
    | some u =>
      have eb := split b u z
      subst eb
      obtain ⟨ob, xs, eu⟩ := hF u z
      subst eu
      obtain ⟨e1, _⟩ := hok b _ z
      obtain ⟨e2, _⟩ := hok' b _ (un.frzs b ob _ z)
      rw [e] at e1
      cases e1
      exact e2
theorem law_callG {P : Program} {w : World} {K : PySem.W.Frag} {mg mb : Str → Option Value} {CX : CXT} {k : Nat} {fa a : Addr} {fd : FuncData} {x : Str} {sp : Sp} {s₁ : Shared} {vs : List Value} {ns : List Int}
    (KX : K.In s₁.heap) (hns : s₁.heap.Ns mainGlobals mg) (hb : s₁.heap.Ns builtinsNs mb) (hbb : ∀ x : Str, x ≠ "__name__" → mb x = bootBuiltins x) (hlim : s₁.heap.NoLimit) (hg : s₁.gens = #[])
    (ha : s₁.heap.get? a = some { cls := .type "list", data := .seq vs.toArray }) (hi : IntsAre vs ns) (hl : ns.length ≤ sizeLine) (hr : Room k callerA)
    (F : ∀ base : Heap, K.In base → base.Ns mainGlobals mg → FnG P w K mg base CX k fa fd [x] sp) (hbind : ∀ (s : Shared) (u : Value), BindsTo s fd ⟨[u], []⟩ [(x, u)])
    (hsp : ∀ H : Hp, Only H → SqL K H a (ns.map V.int) → sp [.ref a] H (fun v _ => v = .bl true) fun _ _ _ => False)
    (hCX : ∀ H e s', CX [] H s₁ (fun _ _ _ => False) e s' → False) :
    codeAny (model P w) callerA (.call (.ref fa) ⟨[.ref a], []⟩) (fun r s' => r = .ok (.ret (.bool true)) ∧ OldK s₁.heap s'.heap ∧ s'.os = s₁.os ∧ AllBare s'.gens) s₁ := by
  have rv := vals_ints hi
  have lenV := hi.length
  have main := law_atG (ns := ns) KX hns hb hbb hlim hg ha hr F hbind hCX
  cases hk : K.lookup a with
  | some o =>
    have e := KX a o hk
    rw [ha] at e
    cases e
    have nothing : Only fun _ => none := fun b => .inl rfl
    exact main (fun _ => none) (fun b z => absurd rfl z) (fun u z => by cases z) (fun b u z => by cases z) (fun z => absurd rfl z)
      (hsp _ nothing (.inr ⟨_, vs.toArray, _, hk, rfl, rfl, rfl, by rw [List.size_toArray, lenV]; exact hl, by simpa using rv⟩))
  | none =>
    have at_ : atScript a (.frz { cls := .type "list", data := .seq vs.toArray } (.lst (ns.map V.int))) a = some (.frz { cls := .type "list", data := .seq vs.toArray } (.lst (ns.map V.int))) := if_pos rfl
    have off : ∀ b, b ≠ a → atScript a (.frz { cls := .type "list", data := .seq vs.toArray } (.lst (ns.map V.int))) b = none := fun b hb => if_neg hb
    refine main (atScript a (.frz { cls := .type "list", data := .seq vs.toArray } (.lst (ns.map V.int)))) (fun b z => Classical.byContradiction fun hb => z (off b hb)) (fun u z => ?_) (fun b u z => ?_) (fun _ => hk)
      (hsp _ (fun b => ?_) (.inl (.inr ⟨_, at_⟩)))
    · rw [at_] at z
      cases z
      exact ⟨_, _, rfl⟩
    · by_cases hb : b = a
      · subst hb
        rw [at_] at z
        cases z
        exact ⟨ha, by rw [List.length_map]; exact hl, vs, _, rv, ha⟩
      · rw [off b hb] at z
        cases z
    · by_cases hb : b = a
      · subst hb
        exact .inr ⟨_, _, at_⟩
      · exact .inl (off b hb)
/-- the goal that k_head leaves, from the law's promise where no guard runs -/
theorem walk_ofG {l : PySem.W.OpenLaw} {n k : Nat} {q : Program} {loose : List Str} {XP : (Str → Option Value) → Heap → Prop} {YP : World → Heap → Prop} {d : DefRec} {K : Params → PySem.W.Frag} {CX : World → CXT} {sp : World → Sp} {x : Str}
    (hn : l.most = some n) (hn2 : n ≤ sizeLine) (hdf : d.params.defaults = []) (hr : Room k callerA) (hY : ∀ (w : World) (h : Heap), YP w h → (K w.params).In h)
    (F : ∀ (w : World) (mg : Str → Option Value) (fa : Addr) (h : Heap), (K w.params).In h → h.Ns mainGlobals mg → mg d.name = some (.ref fa) →
      ∃ fd : FuncData, (∀ (s : Shared) (u : Value), BindsTo s fd ⟨[u], []⟩ [(x, u)]) ∧ ∀ base : Heap, (K w.params).In base → base.Ns mainGlobals mg → FnG l.prog w (K w.params) mg base (CX w) k fa fd [x] (sp w))
    (hsp : ∀ (w : World) (H : Hp) (a : Addr) (ns : List Int), ns.length ≤ n → Only H → SqL (K w.params) H a (ns.map V.int) → sp w [.ref a] H (fun v _ => v = .bl true) fun _ _ _ => False)
    (hCX : ∀ (w : World) (H : Hp) (s : Shared) (e : Value) (s' : Shared), CX w [] H s (fun _ _ _ => False) e s' → False) :
    PySem.W.WalkO q loose XP YP l.row.toRowW d [] (fun f vs => PySem.call f vs) :=
  Att.attach_call hn hdf fun w s₀ s₁ mg mb fa o pm cd doc a vs ns G Y ho hd hcd hmg hobj hints hlen hg =>
    let ⟨_, hb, hF⟩ := F w mg fa _ (hY w _ Y) G.T.g hmg
    law_callG (hY w _ Y) G.T.g G.T.b G.T.builtins G.T.nolimit hg hobj hints (Nat.le_trans hlen hn2) hr hF hb (fun H hO hS => hsp w H a ns hlen hO hS) fun H e s' => hCX w H s₁ e s'
end Rp
/-! a caught error: isinstance of it, a def that is handed it, its fields; a method that may raise; count of truths -/
namespace Rp
open PySem PySem.Spec PyProof.Rows L2
/-- the dict of an exception that is looked at stands tracked, or there is none -/
def HasD (H : Hp) (d : Option Addr) : Prop := d = none ∨ ∃ dx fs, d = some dx ∧ H dx = some (.xd fs)
theorem exc_inst {X : Cx} {pins : List (Addr × Obj)} {σ : L2.St} {H : Hp} {s : Shared} {a D : Addr} {oe : Obj} {d : Option Addr} (I : Inv X pins σ H s) (hp : (a, oe) ∈ X.pn) (hz : Zc (.ref D) d oe) (hf : ∃ vs, oe.data = .fields vs) (hd : HasD H d) :
    ∃ od, PySem.W.InstAt s.heap a oe D od := by
  obtain ⟨hget, _⟩ := I.pin (a, oe) (List.mem_append_left _ hp)
  obtain ⟨vs, hv⟩ := hf
  rcases hd with rfl | ⟨dx, fs, rfl, hx⟩
  · refine ⟨none, ?_⟩
    obtain ⟨oc, od, oda, osl⟩ := oe
    obtain ⟨h1, h2⟩ := hz
    dsimp only at h1 h2 hv
    subst h1 h2 hv
    exact ⟨hget, rfl, rfl, trivial⟩
  · have hx : ObjOk X.prog X.w H s.heap dx (.xd fs) := I.hok dx _ hx
    obtain ⟨mA, hns, hr⟩ := hx
    obtain ⟨od, ho, hl⟩ := lookIn_ns hns
    exact ⟨some od, hget, hz.1, by unfold PySem.W.notCls; rw [hv] <;> rfl, by rw [hz.2]; exact ho⟩
/-- isinstance(e, c), e the error at a -/
def rIsX (K : PySem.W.Frag) (a : Addr) (cls : Value) (d : Option Addr) : List V → Hp → VK → Prop := fun xs H Q => ∃ (D : Addr) (c : V) (cv : Value) (b : Bool), xs = [.ref a, c] ∧ cls = .ref D ∧ ExcC K D ∧ ClsV c cv ∧ HasD H d ∧ PySem.W.kitOne K (.ref D) cv = some b ∧ Q (.bl b) H
/-- isinstance(e, (c1, c2, ..)) -/
def rIsXT (K : PySem.W.Frag) (a : Addr) (cls : Value) (d : Option Addr) : List V → Hp → VK → Prop := fun xs H Q => ∃ (D tp : Addr) (cs : List V) (us : List Value) (b : Bool), xs = [.ref a, .ref tp] ∧ cls = .ref D ∧ ExcC K D ∧ H tp = some (.tup cs) ∧ Paired ClsV cs us ∧ HasD H d ∧ PySem.W.kitAny K (.ref D) us = some b ∧ Q (.bl b) H
section
variable {X : Cx} {a : Addr} {oe : Obj} {cls : Value} {d : Option Addr}
theorem call_isX (hp : (a, oe) ∈ X.pn) (hz : Zc cls d oe) (hf : ∃ vs, oe.data = .fields vs) : CallR X (.builtin "isinstance") (rIsX X.K a cls d) := by
  intro pins s σ H xs us Q I r h
  obtain ⟨D, c, cv, b, rfl, rfl, C, k, hd, e, q⟩ := h
  obtain ⟨u1, u2, rfl, r1, r2⟩ := vals2 r
  have e2 := k.eq r2
  subst e2
  cases r1
  obtain ⟨od, J⟩ := exc_inst I hp hz hf hd
  have hcl : (PySem.W.clsIn X.K D).isSome = true := by
    obtain ⟨cd, hc, _⟩ := PySem.W.any_some C.hd
    rw [hc]; rfl
  exact PySem.W.kia_one (PySem.W.kitx_exc (ox := oe) (od := od) hcl C.hg C.hk C.hs C.ha C.hn C.ht C.hm) I.kIn J e (fun z => nomatch z) fun tk => ⟨.bl b, H, I.tok tk, rfl, q⟩
theorem call_isXT (hp : (a, oe) ∈ X.pn) (hz : Zc cls d oe) (hf : ∃ vs, oe.data = .fields vs) : CallR X (.builtin "isinstance") (rIsXT X.K a cls d) := by
  intro pins s σ H xs us Q I r h
  obtain ⟨D, tp, cs, ws, b, rfl, rfl, C, hT, k, hd, e, q⟩ := h
  obtain ⟨u1, u2, rfl, r1, r2⟩ := vals2 r
  cases r1
  cases (show u2 = Value.ref tp from r2)
  obtain ⟨od, J⟩ := exc_inst I hp hz hf hd
  have hcl : (PySem.W.clsIn X.K D).isSome = true := by
    obtain ⟨cd, hc, _⟩ := PySem.W.any_some C.hd
    rw [hc]; rfl
  obtain ⟨_, its, rv, o, h1, h2, n, h3⟩ := (show ObjOk X.prog X.w H s.heap tp (.tup cs) from I.hok tp _ hT)
  have e3 := ClsV.all k rv
  subst e3
  obtain ⟨oc, oda, dt, sl⟩ := o
  simp only at h2 h3
  subst h2 h3
  exact PySem.W.kia_tup (PySem.W.kitx_exc (ox := oe) (od := od) hcl C.hg C.hk C.hs C.ha C.hn C.ht C.hm) I.kIn J h1 e (fun z => nomatch z) fun tk => ⟨.bl b, H, I.tok tk, rfl, q⟩
end

/-! ### a def that is handed the error -/
/-- what it promises: a the error, cls its class, d its dict -/
abbrev SpE := Addr → Value → Option Addr → Sp
structure FnE (P : Program) (w : World) (K : PySem.W.Frag) (mg : Str → Option Value) (base : Heap) (CX : CXT) (k : Nat) (f : Addr) (fd : FuncData) (ps : List Str) (sp : SpE) : Prop where
  len : ∀ a cls d vs H Q E, sp a cls d vs H Q E → vs.length = ps.length
  run : ∀ (A : Around) (outer : List Env) (s : Shared) (H : Hp) (args : Args) (us : List Value) (vs : List V) (Q : VK) (E : XK) (p : Addr × Obj) (cls : Value) (d : Option Addr), L2H.RoomH k A → L2H.PinOk outer H s p → Zc cls d p.2 → (∃ vs, p.2.data = .fields vs) →
    Env0 P w K mg base A outer s H → BindsTo s fd args (ps.zip us) → Vals vs us → sp p.1 cls d vs H Q E → codeAny (model P w) A (.call (.ref f) args) (CR CX outer P w H s Q E) s
section
variable {P : Program} {w : World} {K : PySem.W.Frag} {mg : Str → Option Value} {base : Heap} {CX : CXT} {k : Nat} {f : Addr} {fd : FuncData} {ps : List Str} {sp : SpE}
theorem fn_ofE {name qual : Str} {params : Arguments} {body : List Stmt} {scope : Scope} {dV kV doc pm cdv ct oc : Value} {an od : Option Addr}
    {osl : Array (Option Value)} {N : List Str} (lk : K.lookup f = some ⟨oc, od, .func (PySem.W.fnOf name qual params body scope dV kV doc pm an cdv ct), osl⟩) (hcd : PySem.W.codeIn K cdv qual = true) (S : FnScope N ps scope)
    (len : ∀ a cls d vs H Q E, sp a cls d vs H Q E → vs.length = ps.length)
    (hbody : ∀ (A : Around) (outer : List Env) (s : Shared) (H : Hp) (vs : List V) (Q : VK) (E : XK) (p : Addr × Obj) (cls : Value) (d : Option Addr), Zc cls d p.2 → (∃ vs, p.2.data = .fields vs) → L2H.RoomH k (A.deeper (envOfC qual scope s.heap.objs.size f cdv)) → sp p.1 cls d vs H Q E →
      ∃ t, PSs (L2H.cxH CX P w K mg base N qual scope f cdv A outer s H E p) body t ∧ t { nx := fun _ H' => Q .non H', rt := Q } (L2.start N vs) H) :
    FnE P w K mg base CX (k + 1) f (PySem.W.fnOf name qual params body scope dV kV doc pm an cdv ct) ps sp := by
  refine ⟨len, fun A outer s H args us vs Q E p cls d hr hpin hz hf e0 hb r hsp => ?_⟩
  have hl := len _ _ _ _ _ _ _ hsp
  have KX : K.In s.heap := e0.mod.kin.keeps fun b o e => (e0.bs b o e).1
  have lim : s.heap.NoLimit := e0.mod.nolimit.keeps fun b o e => (e0.bs b o e).1
  have kinds : ∀ y ∈ ps.zip us, scope.names.lookup y.1 = some .local ∨ (scope.names.lookup y.1 = some .cell ∧ ((cellsFrom (s.heap.objs.size + 1) scope.names []).lookup y.1).isSome = true) := fun ⟨n, v⟩ hy => by
    rcases S.par n (List.of_mem_zip hy).1 with q | q
    · exact .inl q
    · exact .inr ⟨q, PySem.W.cellsFrom_some _ _ _ (.inl q)⟩
  refine codeAny_call_function hr.depth (KX _ _ lk) rfl S.co S.gen rfl (PySem.W.codeRec_of KX hcd) (hb _ _ _ _ ?_)
  refine wpAny_newFunctionEnv_cells S.kind kinds fun env he s1 x => ?_
  subst he
  refine ⟨lim.keeps x.toInCall.keep, codeAny_func ?_⟩
  obtain ⟨t, ht, hq⟩ := hbody A outer s H vs Q E p cls d hz hf (hr.deeper _) hsp
  have I : Inv (L2H.cxH CX P w K mg base N qual scope f cdv A outer s H E p) [] (L2.start N vs) H s1 := L2H.inv_startH S hpin e0 hl r x
  refine wpAny_mono (ht.run [] s1 (L2.start N vs) H _ I hq) (fun fl s' hs => ?_) fun e s' hs => hs
  cases fl with
  | next =>
    obtain ⟨σ', H', J, q⟩ := hs
    exact ⟨V.non, H', J.os, J.bare, J.base, J.hok, (rfl : RelV .non Value.none), q⟩
  | ret u =>
    obtain ⟨v, σ', H', J, rv, q⟩ := hs
    exact ⟨v, H', J.os, J.bare, J.base, J.hok, rv, q⟩
  | brk => exact hs.elim fun _ z => z.elim fun _ z => z.2.elim
  | cont => exact hs.elim fun _ z => z.elim fun _ z => z.2.elim
theorem Fun_okE {x qual : Str} {st : Stmt} {N : List Str} (F : Fun K x qual st f fd) (S : FnScope N ps (defScope st)) (len : ∀ a cls d vs H Q E, sp a cls d vs H Q E → vs.length = ps.length)
    (body : ∀ (cdv : Value) (A : Around) (outer : List Env) (s : Shared) (H : Hp) (vs : List V) (Q : VK) (E : XK) (p : Addr × Obj) (cls : Value) (d : Option Addr), Zc cls d p.2 → (∃ vs, p.2.data = .fields vs) →
      L2H.RoomH k (A.deeper (envOfC qual (defScope st) s.heap.objs.size f cdv)) → sp p.1 cls d vs H Q E →
      ∃ t, PSs (L2H.cxH CX P w K mg base N qual (defScope st) f cdv A outer s H E p) (defBody st) t ∧ t { nx := fun _ H' => Q .non H', rt := Q } (start N vs) H) : FnE P w K mg base CX (k + 1) f fd ps sp := by
  obtain ⟨oc, od, kV, doc, pm, an, cdv, ct, osl, rfl, lk, hcd⟩ := F.ex
  exact fn_ofE lk hcd S len fun A outer s H vs Q E p cls d hz hf hr hsp => body cdv A outer s H vs Q E p cls d hz hf hr hsp
end
section
variable {X : Cx} {CX : CXT} {k : Nat} {f : Addr} {fd : FuncData} {ps : List Str} {sp : SpE} {E : XK} {x : Str} {p pos : Pos} {e : Expr} {es : List Expr} {t : TA} {a : Addr} {oe : Obj} {cls : Value} {d : Option Addr}
theorem pe_callE (F : FnE X.prog X.w X.K X.mg X.base CX k f fd ps sp) (hr : L2H.RoomH k X.A) (hp : (a, oe) ∈ X.pn) (hz : Zc cls d oe) (hf : ∃ vs, oe.data = .fields vs) (hg : Gl X x) (hm : X.mg x = some (.ref f)) (hk : PySem.W.keepIn X.K (.ref f) = true) (hb : Binds X.K fd ps []) (hx : Passes CX X E)
    (ha : PA X (e :: es) t) (hdb : (x == ("__debug__" : Str)) = false := by decide) (he : starEach (e :: es) X.env = (false, eval e X.env) :: starEach es X.env := by rfl) (hpl : (backTo pos (starEach es X.env)).any (·.1) = false := by rfl) :
    PE X (.Call (.Name x p) (e :: es) [] pos) (tCall (sp a cls d) [] E t) := by
  refine ⟨fun pins s σ H Q I h => ?_⟩
  refine wpAny_Call_Name_kw (ld_glob I hg hm ?_ hdb)
  refine PySem.W.callWith_K (h₀ := X.base) I.ok.mod.kin hk (thn (ha.run pos pins s σ H _ I h) fun us s1 ⟨vs, H1, I1, r, q⟩ => ⟨I1.kIn, ?_⟩) he hpl
  have q : sp a cls d (vs ++ []) H1 Q E := q
  rw [List.append_nil] at q
  have hl : us.length = ps.length := by rw [← r.length]; exact F.len _ _ _ _ _ _ _ q
  have b := hb s1 us I1.kIn (by rw [List.append_nil]; exact hl)
  rw [List.append_nil] at b
  have P1 := I1.pin (a, oe) (List.mem_append_left _ hp)
  have hpin : L2H.PinOk X.stack H1 s1 (a, oe) := ⟨P1.1, P1.2.1, fun hm => (List.mem_cons.mp (I1.stkSub a hm)).elim P1.2.2.1 P1.2.2.2.1, P1.2.2.2.2⟩
  refine wpAny_call (codeAny_mono (F.run X.A X.stack s1 H1 ⟨us, []⟩ us vs Q E (a, oe) cls d hr hpin hz hf I1.env0 b r q) fun r s' hq => ?_)
  match r, hq with
  | .error e, hq => exact hx pins σ H1 s1 e s' I1 hq
  | .ok (.ret u), hq => exact I1.after hq
end

/-! ### o.m(e, ..) that may raise, in a try -/
def tMethE (C : Addr) (m : Str) (sp : Sp) (E : L2.St → XK) (ta : TE) (t : TA) : TE := fun σ H Q => ta σ H fun x H1 => ∃ a dx fs, x = .ref a ∧ H1 a = some (.ins C dx fs) ∧ fs.lookup m = none ∧ t σ H1 fun vs H2 => sp (x :: vs) H2 Q (E σ)
theorem pe_methE {X : Cx} {CX : CXT} {k : Nat} {C f : Addr} {fd : FuncData} {ps : List Str} {m : Str} {sp : Sp} {E : L2.St → XK} {o e : Expr} {es : List Expr} {ta : TE} {t : TA} {apos pos : Pos} {pl : Sem Bool} (he : PE X o ta) (c : Cls X.K C) (hm : Meth X.K C m f)
    (F : FnOk X.prog X.w X.K X.mg X.base CX k f fd ps sp) (hr : Room k X.A) (hb : Binds X.K fd ps []) (hx : ∀ σ, PassesAt CX X σ (E σ)) (ha : PA X (e :: es) t)
    (hst : starEach (e :: es) X.env = (false, eval e X.env) :: starEach es X.env := by rfl) (hpl : (backTo pos (starEach es X.env)).any (·.1) = false := by rfl)
    (ht : eval (.Call (.Attribute o m apos) (e :: es) [] pos) X.env = (do
      let ov ← eval o X.env
      standAt apos.atName
      let (f, first) ← holding [ov] (getMethod ov m pl)
      callWith pos f first (backTo pos (starEach (e :: es) X.env)) (backToKw pos (keywordEach [] X.env))) := by rfl) :
    PE X (.Call (.Attribute o m apos) (e :: es) [] pos) (tMethE C m sp E ta t) := by
  refine ⟨fun pins s σ H Q I h => ?_⟩
  refine PySem.W.methodCall_KW (pl := pl) (thn (he.run pins s σ H _ I h) fun u s1 ⟨x, H1, I1, rx, a, dx, fs, ex, ea, l, q⟩ => ?_) ht
  subst ex
  obtain rfl : u = Value.ref a := rx
  refine getmeth_ok I1 ea c hm l ?_
  refine PySem.W.callWith_K (first := [.ref a]) (h₀ := X.base) I.ok.mod.kin hm.kp (thn (ha.run pos pins s1 σ H1 _ I1 q) fun us s2 ⟨vs, H2, I2, r, q2⟩ => ⟨I2.kIn, ?_⟩) hst hpl
  exact run_fnS (us := .ref a :: us) (vs := .ref a :: vs) F hr hb (hx σ) I2 (.cons rfl r) q2

/-! ### xs.count(b) of truths -/
theorem vals_bl_eq : ∀ {bs : List Bool} {us : List Value}, Vals (bs.map V.bl) us → us = bs.map Value.bool
  | [], _, .nil => rfl
  | b :: bs, _, .cons r t => by
    rw [vals_bl_eq t]
    cases r
    rfl
def rCntB (K : PySem.W.Frag) : V → List V → Hp → VK → Prop := fun x xs H Q => ∃ (p : Addr) (bs : List Bool) (k : Bool), x = .ref p ∧ xs = [.bl k] ∧ SqL K H p (bs.map V.bl) ∧ Q (.int (bs.count k : Nat)) H
theorem count_bl (k : Bool) : ∀ bs : List Bool, (bs.map Value.bool).countP (PyProof.Rows.isBoolOf k) = bs.count k
  | [] => rfl
  | b :: bs => by
    rw [List.map_cons, List.countP_cons, List.count_cons, count_bl k bs]
    rfl
theorem mt_bcount {X : Cx} : MtR X "list.count" (rCntB X.K) := by
  intro pins s σ H x xs v us Q I rx rxs h
  obtain ⟨p, bs, k, rfl, rfl, hs, q⟩ := h
  cases rx
  obtain ⟨u, rfl, ru⟩ := rxs.one
  cases ru
  obtain ⟨its, rv, ⟨⟨cls, dd, data, sl⟩, n, ho, hc, hdn, hd⟩, hlen⟩ := I.list hs
  simp only at hc hd
  subst hc hd
  have hi := vals_bl_eq rv
  subst hi
  refine call_meets PySem.F.slot_list_count ⟨_, ho, rfl⟩ PySem.F.entry_list_count (PySem.F.args_list_count_2 _ _)
    (SeqAt.list_countAt p (bs.map Value.bool).toArray n dd sl (.bool k) (PyProof.Rows.isBoolOf k)) ⟨ho, fun y hy => ?_, ?_⟩
  · obtain ⟨b, _, rfl⟩ := List.mem_map.mp (show y ∈ bs.map Value.bool by simpa using hy)
    exact SeqAt.EqAt.bool_bool b k
  · refine ⟨.int (bs.count k : Nat), H, I.tok _, ⟨s.toks, ?_⟩, q⟩
    show Value.int (((bs.map Value.bool).toArray.toList.countP (PyProof.Rows.isBoolOf k) : Nat) : Int) s.toks = Value.int ((bs.count k : Nat) : Int) s.toks
    rw [show (bs.map Value.bool).toArray.toList = bs.map Value.bool from rfl, count_bl]
end Rp
/-! rules for an except suite whose readings speak of the outer context -/
namespace Rp
open PySem PySem.Spec PyProof.Rows L2
theorem call_isS {X : Cx} {a : Addr} {oe : Obj} {cls : Value} {d : Option Addr} {pn : List (Addr × Obj)} (hz : Zc cls d oe) (hf : ∃ vs, oe.data = .fields vs) : CallR (X.suite a ((a, oe) :: pn)) (.builtin "isinstance") (rIsX X.K a cls d) :=
  call_isX (X := X.suite a ((a, oe) :: pn)) List.mem_cons_self hz hf
theorem ix_listS {X : Cx} {a : Addr} {pn : List (Addr × Obj)} : IxR (X.suite a pn) (rIxL X.K) := ix_list (X := X.suite a pn)
theorem pe_bmS {X : Cx} {a : Addr} {pn : List (Addr × Obj)} {T id : String} {name : Str} {r : V → List V → Hp → VK → Prop} {o e : Expr} {es : List Expr} {to : TE} {t : TA} {apos cpos : Pos} (pa : PlainAttrs T) (slot : Slot T name id) (hty : typeOf (.builtin id) = pure (.type "method_descriptor")) (hm : MtR (X.suite a pn) id r) (ho : PE (X.suite a pn) o to) (ha : PA (X.suite a pn) (e :: es) t)
    (hbase : attributeBase o name X.env (eval o X.env) = eval o X.env := by rfl)
    (hfew : ((backTo cpos (starEach (e :: es) X.env)).all (fun x => !x.1) && (backToKw cpos (keywordEach [] X.env)).all (fun x => x.1.isSome)
      && decide ((e :: es).length + ([] : List Keyword).length + (if ([] : List Keyword).isEmpty then 0 else 1) < 30)) = true := by rfl)
    (hline : (apos.endLine == cpos.line) = true := by rfl) (hs : starEach (e :: es) X.env = (false, eval e X.env) :: starEach es X.env := by rfl) (hplain : (backTo cpos (starEach es X.env)).any (·.1) = false := by rfl) :
    PE (X.suite a pn) (.Call (.Attribute o name apos) (e :: es) [] cpos) (tBM X.K T r to t) := pe_bm (X := X.suite a pn) pa slot hty hm ho ha hbase hfew hline hs hplain
end Rp
/-! several except clauses that each keep the exception by a name; nothing else comes out of the body -/
namespace Rp
open PySem PySem.Spec PyProof.Rows L2
/-- the wish of the clauses, made one by one of the wish of a single one -/
inductive Named (X : Cx) : List ExceptHandler → (Ends → WX) → Prop
  | none : Named X [] (fun _ _ _ _ _ => False)
  | more {x n : Str} {c : Value} {i : Nat} {ts : Addr → Value → Option Addr → TS} {st : Stmt} {suite : List Stmt} {np p : Pos} {hds : List ExceptHandler} {f : Ends → WX} (hi : X.N[i]? = some n) (hl : X.env.kindOf n = some .local) (hc : Names X x c)
      (hsu : ∀ (a : Addr) (oe : Obj) (cls : Value) (d : Option Addr) (pn : List (Addr × Obj)), Zc cls d oe → (∃ vs, oe.data = .fields vs) → PSs (X.suite a ((a, oe) :: pn)) (st :: suite) (ts a cls d)) (r : Named X hds f) :
      Named X (.ExceptHandler (some (.Name x np)) (some n) (st :: suite) p :: hds) (fun D => wAs X.K c i ts (f D) D)
/-- no frame is a record -/
theorem no_frame {h B : Heap} {l : List Env} {a : Addr} {o : Obj} {vs : Array Value} (ff : h.FunFrames B l) (ha : h.get? a = some o) (hd : o.data = .fields vs) : a ∉ frs l := by
  intro z
  have ⟨_, o2, g2, nf⟩ := ff.mem z
  cases ha.symm.trans g2
  exact nf _ hd
section
variable {X : Cx} {hds : List ExceptHandler} {f : Ends → WX} {D : Ends} {pins : List (Addr × Obj)} {σ : L2.St} {H : Hp} {a : Addr} {B : Heap} {cls : Value} {d : Option Addr} {s0 s : Shared}
theorem clauses (hh : Named X hds f) (hf : X.env.frame = some X.env.locals) (hN : X.N.Nodup) (I : Inv X pins σ H s0) (ok : X.Ok) (nb : ∀ b o, s0.heap.get? b = some o → b ∉ frs X.stack → B.get? b = some o) (hs : X.stack = X.env :: X.outer)
    (fl : HandSPX.FlyingZ B (X.env :: X.outer) a (Zc cls d) s.heap) (up : s0.heap.UpToSlots s.heap) (na : H a = none) (os : s.os = s0.os) (ag : AllBare s.gens) (w : f D cls d σ H) :
    wpAny (model X.prog X.w) X.A (handleBy (.ref a) X.env hds) (SP X pins D) X.xe s := by
  induction hh with
  | none => exact w.elim
  | @more x n c i ts st suite np p rest g hi hl hc hsu r ih =>
    have ⟨b, eb, yes, no⟩ := w
    have fine : ∀ {h : Heap}, HandSPX.FlyingZ B (X.env :: X.outer) a (Zc cls d) h → s0.heap.UpToSlots h → ∃ oe, h.get? a = some oe ∧ Zc cls d oe ∧ (∃ vs, oe.data = .fields vs) ∧ Inv (X.suite a ((a, oe) :: (X.pn ++ pins))) [] σ H { s with heap := h } := by
      intro h F U
      obtain ⟨oe, vs, ge, ze, de⟩ := F.there
      have out := no_frame F.2.2.1 ge de
      have at_ : ∀ e ∈ X.env :: X.outer, ∀ q, e.frame = some q → a ≠ q := fun e he q hq z => out (List.mem_filterMap.mpr ⟨e, he, by rw [hq, z]⟩)
      refine ⟨oe, ge, ze, ⟨vs, de⟩, (I.landed (s' := { s with heap := h }) nb F.1 U os ag).suite ge de na (at_ _ List.mem_cons_self _ hf) fun hm => ?_⟩
      obtain ⟨e, he, q⟩ := List.mem_filterMap.mp hm
      exact at_ e (List.mem_cons_of_mem _ he) _ q rfl
    obtain ⟨oe, ge, ze, _, S⟩ := fine fl up
    refine wpAny_handleBy_cons (codeAny_handlers_test ?_) (fun z => by cases z)
    have kind : PySem.W.Looks (model X.prog X.w) s.heap (typeOf (.ref a)) cls := fun A Q E s' k q => wpAny_typeOf_ref (k _ _ ge) (ze.1.symm ▸ q)
    have look := PySem.W.exm_one (M := model X.prog X.w) S.kIn kind eb
    have name : ∀ {Q E : Value → Shared → Prop}, Q c s → wpAny (model X.prog X.w) (X.A.mark (some (.ref a))) (eval (.Name x np) X.env) Q E s := by
      intro Q E q
      rcases hc with ⟨g1, g2, g3 | ⟨g3, g4, g5⟩⟩
      · exact ld_glob (X := X.suite a ((a, oe) :: (X.pn ++ pins))) S g1 g3 q g2
      · exact ld_blt (X := X.suite a ((a, oe) :: (X.pn ++ pins))) S g1 g3 g4 q g5 g2
    refine name (look.here ?_)
    cases b
    · show wpAny (model X.prog X.w) X.A (handleBy (.ref a) X.env rest) (SP X pins D) X.xe s
      exact ih (no rfl)
    · refine codeAny_handlers_suite_as (HandSPX.lands_againZ fl fun h2 fl2 up2 => ?_)
      obtain ⟨o2, g2, z2, f2, S2⟩ := fine fl2 (up.trans up2)
      refine store_ok (X := X.suite a ((a, o2) :: (X.pn ++ pins))) (v := .ref a) S2 hN hi (.inl hl) rfl (fun s3 S3 => ?_) (.inr hl)
      refine wpAny_mono ((hsu a o2 cls d _ z2 f2).run [] s3 _ H _ S3 (yes rfl a na)) (fun fw s4 k => ?_) (fun _ _ z => False.elim z)
      have bye : ∀ {σ4 : L2.St} {H4 : Hp} {Q : Shared → Prop}, Inv (X.suite a ((a, o2) :: (X.pn ++ pins))) [] σ4 H4 s4 → (∀ s5, Inv X pins (σ4.set i none) H4 s5 → Q s5) →
          wpAny (model X.prog X.w) X.A (do bindName X.env n .none; unbindBehindTheSuite X.env n p) (fun _ s5 => Q s5) X.xe s4 := fun S4 hq => gone_ok (S4.unsuite ok) hN hi hl hq
      rcases fw with _ | u | _ | _
      · have ⟨σ4, H4, S4, q4⟩ := k
        exact bye S4 fun _ J => ⟨_, _, J, q4⟩
      · first
          | (have ⟨v, σ4, H4, S4, r4, q4⟩ := k; exact bye S4 fun _ J => ⟨_, _, _, J, r4, q4⟩)
          | (have ⟨σ4, H4, S4, q4⟩ := k; exact bye S4 fun _ J => ⟨_, _, J, q4⟩)
      all_goals
        first
          | (have ⟨σ4, H4, S4, q4⟩ := k; exact bye S4 fun _ J => ⟨_, _, J, q4⟩)
          | (have ⟨v, σ4, H4, S4, r4, q4⟩ := k; exact bye S4 fun _ J => ⟨_, _, _, J, r4, q4⟩)
theorem ps_try_named {body : List Stmt} {h₀ : ExceptHandler} {pos : Pos} {tb : WX → TS} (hs : X.stack = X.env :: X.outer) (hf : X.env.frame = some X.env.locals) (hN : X.N.Nodup)
    (hb : ∀ (W : WX) (pn : List (Addr × Obj)) (xe : Value → Shared → Prop), Takes (X.tr pn xe) W → PassesOwn (model X.prog X.w) X.A X.env xe → PSs (X.tr pn xe) body (tb W)) (hh : Named X (h₀ :: hds) f) :
    PS X (.Try body (h₀ :: hds) [] [] pos) (fun D σ H => tb (f D) D σ H) := by
  refine ⟨fun pins s σ H D I h => wpAny_Try_except ?_⟩
  have ok := I.ok
  refine wpAny_mono ((hb (f D) (X.pn ++ pins) _ (fun u s' z => ?_) PassesOwn.looking).run [] s σ H D (I.toTry _) h) (fun fw s1 k => ?_) fun _ _ q => q
  · obtain ⟨a, B, s0, pins', σ', H', cls, d, rfl, J, nb, up, sky, na, os, ag, w⟩ := z
    have J := J.ofTry ok
    have sky2 : Sky B (X.env :: X.outer) a (Zc cls d) X.env.locals s'.heap := hs ▸ sky
    exact sky2.land Zc.steady (ok.frames.trans (congrArg some hs)) hf fun h2 fl up2 => clauses (s := { s' with heap := h2 }) hh hf hN J ok nb hs fl (up.trans up2) na os ag w
  · rcases fw with _ | u | _ | _
    · have ⟨σ', H', J, q⟩ := k
      exact wpAny_execs_nil ⟨σ', H', J.ofTry ok, q⟩
    all_goals
      first
        | (have ⟨σ', H', J, q⟩ := k; exact ⟨σ', H', J.ofTry ok, q⟩)
        | (have ⟨v, σ', H', J, r, q⟩ := k; exact ⟨v, σ', H', J.ofTry ok, r, q⟩)
end
end Rp
/-! sep.join(reversed(xs)), xs a list of texts -/
namespace Rp
open PySem PySem.Spec PyProof.Rows L2
section
variable {prog : Program} {w : World} {A : Around} {E : Value → Shared → Prop} {s : Shared} {x : Str} {t : Tok} {Q : Value → Shared → Prop}
theorem join_rev {it l : Addr} {items : Array Value} {ys : List Str} (hh : A.handled = none) (hit : s.heap.IsRevIter it l ((items.size : Int) - 1)) (hl : s.heap.IsList l items) (hne : l ≠ it) (hn : items.size ≤ sizeLine)
    (hi : StrsAre items.toList.reverse ys) (hok : (ys.map (·.length)).sum + ys.length * x.length ≤ 16777216)
    (h : ∀ (h' : Heap) (t' k : Tok), (∀ b o, b ≠ it → s.heap.get? b = some o → h'.get? b = some o) → Q (.str (Txt.join x ys) t') { s with heap := h', toks := k }) :
    wpAny (model prog w) A (call (.builtin "str.join") [.str x t, .ref it]) Q E s := by
  refine wpAny_call (codeAny_call_builtin F.slot_str_join.plain F.entry_str_join (F.slot_str_join.check _ _ _ _ _ _ _ _ (typeIs_str _ _ _) (F.args_str_join_2 _ _) ?_))
  have hT : s.TypeIs (.ref it) "list_reverseiterator" := Heap.IsRevIter.typeIs hit
  have hh1 : A.in1.handled = none := hh
  rw [join_tree_other]
  refine wpAny_bind (wpAny_typeOf hT ?_)
  show wpAny _ A.in1 ((pyIter (.ref it)).tryCatch _ >>= fun j => collect j >>= fun vs => joinTail x vs) _ _ s
  refine wpAny_bind (wpAny_tryCatch (wpAny_pyIter_revIter hit (wpAny_bind (RT.collect_rev (A := A.in1) hh1 hit hl hne hn fun h' tk acc hk hacc => ?_))))
  have el : acc.toList = items.toList.reverse := by
    have hs : items.size = items.toList.length := by simp
    have ha : acc.toList.length = items.toList.length := by rw [Array.length_toList, hacc.1, hs]
    refine List.ext_getElem? fun j => ?_
    by_cases hj : j < items.toList.length
    · have hja : j < acc.toList.length := by omega
      have e1 : acc.toList[j]? = some acc.toList[j] := List.getElem?_eq_getElem hja
      have e2 := hacc.2 j acc.toList[j] (by rw [← Array.getElem?_toList]; exact e1)
      rw [e1, List.getElem?_reverse hj, ← e2, hs] <;> simp
    · rw [List.getElem?_eq_none (by omega), List.getElem?_eq_none (by rw [List.length_reverse]; omega)]
  rw [el]
  obtain ⟨q, hv, ht⟩ := strsAre_values hi
  rw [hv]
  subst ht
  have ok := joinOk_of hok
  have ok' := ok
  unfold JoinOk at ok'
  rw [Bool.not_eq_true'] at ok'
  have g : Gives (joinTail x (strValues q)) (joinMade x q) := by
    have g0 := gives_joinTail x q ok'
    rcases q with _ | ⟨c, _ | ⟨d, r⟩⟩ <;> exact g0
  exact g prog w A (wants Q E) { s with heap := h', toks := tk } (post_join q ⟨joinFit_length ok', fun t' k => h h' t' k hk⟩)
end

section
variable {X : Cx} {o e : Expr} {to te : TE} {p2 apos pos pos2 : Pos}
/-- o.join(reversed(e)) -/
def tJoinRev (K : PySem.W.Frag) (to te : TE) : TE := fun σ H Q => to σ H fun v H1 => ∃ sep : Str, v = .str sep ∧ te σ H1 fun u H2 => ∃ (a : Addr) (ys : List Str), u = .ref a ∧ SqL K H2 a (ys.map V.str) ∧
  (ys.map (·.length)).sum + ys.length * sep.length ≤ 16777216 ∧ Q (.str (Txt.join sep ys.reverse)) H2
theorem pe_joinRev (hc : X.calm = true) (hg : Gl X "reversed") (hm : X.mg "reversed" = none) (ho : PE X o to) (he : PE X e te)
    (hs : starEach [e] X.env = (false, eval e X.env) :: starEach [] X.env := by rfl)
    (hs2 : starEach [.Call (.Name "reversed" p2) [e] [] pos2] X.env = [(false, eval (.Call (.Name "reversed" p2) [e] [] pos2) X.env)] := by rfl)
    (hbase : attributeBase o "join" X.env (eval o X.env) = eval o X.env := by rfl) (hline : (apos.endLine == pos.line) = true := by rfl) :
    PE X (.Call (.Attribute o "join" apos) [.Call (.Name "reversed" p2) [e] [] pos2] [] pos) (tJoinRev X.K to te) := by
  refine ⟨fun pins s σ H Q I h => ?_⟩
  refine PySem.Call_method1 hbase hs2 hline (thn (ho.run pins s σ H _ I h) fun v s1 k => ?_)
  obtain ⟨xv, H1, I1, r1, sep, rfl, q1⟩ := k
  obtain ⟨t, rfl⟩ := r1
  refine ⟨"str", _, F.plainAttrs_str, F.slot_str_join, F.type_str_join, typeIs_str _ _ _, (fun _ e => nomatch e), Calls.callWith_builtin rfl (Calls.evalArgs_plain (Calls.spliced_cons ?_))⟩
  refine Call_ (ld_blt I1 hg hm PyProof.Rows.boot_reversed (PyProof.Rows.callWith_type1 (args_cons (thn (he.run pins s1 σ H1 _ I1 q1) fun u s2 k => args_nil ?_) hs) hs rfl))
  obtain ⟨yv, H2, I2, r2, a, ys, rfl, hq, hz, q2⟩ := k
  obtain rfl : u = Value.ref a := r2
  obtain ⟨its, rv, pl, hsz⟩ := I2.list hq
  refine call_reversed_list pl.isList (Calls.spliced_nil ?_)
  have hl := pl.isList
  obtain ⟨ol, hol, _⟩ := id hl
  have grow : ∀ b o, s2.heap.get? b = some o → (s2.heap.push (revObj a ((its.toArray.size : Int) - 1))).get? b = some o := fun b o e => Heap.get?_push_of_some _ e
  have I3 : L2.Inv X pins σ H2 { s2 with heap := s2.heap.push (revObj a ((its.toArray.size : Int) - 1)) } := I2.kept (t' := s2.toks) grow
  obtain ⟨f0, f1, f2, f3, f4, f5⟩ := I2.fpOk (H' := H2) (b := s2.heap.objs.size) (Nat.le_refl _) (I2.hok.fresh (Nat.le_refl _))
  have st := strs_of_vals (us := its.reverse) (ys := ys.reverse) (by rw [List.map_reverse]; exact rv.reverse)
  refine join_rev (s := { s2 with heap := s2.heap.push (revObj a ((its.toArray.size : Int) - 1)) }) (items := its.toArray) (I1.ok.hd hc) ⟨_, Heap.get?_push_size _ rfl, rfl, rfl⟩ (hl.push _) (Nat.ne_of_lt (Heap.lt_size hol)) (by rw [List.size_toArray, ← rv.length]; exact hsz)
    (by simpa using st) (by simpa [List.sum_reverse] using hz) fun h' t' k hk => ?_
  exact ⟨.str _, H2, I3.turned (t' := k) (fun b o hb e => hk b o hb e) f0 f1 f3 f4 f5, ⟨t', rfl⟩, q2⟩
end
end Rp
/-! repr of tuples, by the abstract heap -/
namespace Rp
open PySem PySem.Spec PyProof.Rows L2
section
variable {X : Cx} {n : Nat} {as : List Addr} {H : Hp} {a : Addr} {xs : List V} {ts : List Str} {base : Nat} {g : List Code} {A : Around} {pins : List (Addr × Obj)} {σ : L2.St}
theorem tup_fold (lo : Low X n g A) (hcl : ∀ b ∈ as, Clear g b) {Q : (Array Str × Nat) → Shared → Prop} : ∀ (xs : List V) (us : List Value) (ts : List Str) (acc : Array Str) (m : Nat) (s : Shared) (H1 : Hp), Vals xs us → ts.length = xs.length →
    (∀ (i : Nat) (x : V), xs[i]? = some x → ∃ t, ts[i]? = some t ∧ Says X n as H x t) → m + piled ts ≤ sizeLine → Inv X pins σ H1 s → Same H H1 →
    (∀ s2 H2, Inv X pins σ H2 s2 → Same H1 H2 → Q ⟨acc ++ ts.toArray, m + piled ts⟩ s2) → wpAny (model X.prog X.w) A (forIn us (⟨acc, m⟩ : (Array Str × Nat)) tupBody) Q X.xe s := by
  intro xs
  induction xs with
  | nil =>
    intro us ts acc m s H1 rv hl _ _ I e h
    cases rv
    have : ts = [] := List.length_eq_zero_iff.mp hl
    subst this
    have q := h s H1 I (Same.refl H1)
    rw [List.forIn_nil]
    exact wpAny_pure (by simpa [piled] using q)
  | cons x xs ih =>
    intro us ts acc m s H1 rv hl hs hz I e h
    cases rv with
    | cons r1 r2 =>
      rename_i u us
      match ts, hl, hs, hz, h with
      | t :: ts, hl, hs, hz, h =>
        obtain ⟨t', ht, hsay⟩ := hs 0 x rfl
        cases ht
        rw [piled_cons] at hz
        rw [List.forIn_cons]
        refine wpAny_bind (wpAny_bind (wpAny_mono (hsay.und A g (m + 1) pins s σ H1 u lo hcl I e r1 (by omega)) (fun r s2 k => ?_) fun _ _ k => k))
        obtain ⟨er, H2, I2, e2⟩ := k
        subst er
        refine wpAny_pure (ih us ts (acc.push r) (m + (r.length + 2)) s2 H2 r2 (by simpa using hl) (fun i y hy => hs (i + 1) y hy) (by omega) I2 (e.trans e2) fun s3 H3 I3 e3 => ?_)
        have q := h s3 H3 I3 (e2.trans e3)
        have eq : m + piled (r :: ts) = m + (r.length + 2) + piled ts := by rw [piled_cons]; omega
        rw [eq] at q
        simpa using q
theorem tup_body {id : String} {rest : List Value} (lo : Low X (n + 1) g A) (hcl : ∀ b ∈ a :: as, Clear g b) (hna : a ∉ as) (hit : ∀ (i : Nat) (x : V), xs[i]? = some x → ∃ t, ts[i]? = some t ∧ Says X n as H x t) (hl : ts.length = xs.length)
    (hsz : base + (tupleText ts).length ≤ sizeLine) (hq : SqT X.K H a xs) {s : Shared} {H1 : Hp} (I : Inv X pins σ H1 s) (hs : Same H H1) {R : Result → Shared → Prop}
    (hg : (Code.builtin id ⟨.ref a :: rest, []⟩).guards = [Code.builtin id ⟨.ref a :: rest, []⟩]) (hw : (Code.builtin id ⟨.ref a :: rest, []⟩).weight = 1) (hu : (Code.builtin id ⟨.ref a :: rest, []⟩).cUnits = 1) (he : (Code.builtin id ⟨.ref a :: rest, []⟩).envs = [])
    (fin : ∀ s H2 u, Inv X pins σ H2 s → Same H1 H2 → R (.ok (.ret (.str (tupleText ts) u))) s) (bad : ∀ e s, X.xe e s → R (.error e) s) :
    wpOwn (model X.prog X.w) A (.builtin id ⟨.ref a :: rest, []⟩) (Builtin.tupleReprAt base ⟨[.ref a], []⟩) (fun fin s' => match fin with | .done f => R (.ok f) s' | .again c' => c'.quiet = true ∧ codeAny (model X.prog X.w) A c' R s') (fun e s' => R (.error e) s') s := by
  have hsq : SqT X.K H1 a xs := hq.elim (fun h => .inl (h.elim (fun h => .inl (hs _ _ h)) fun ⟨o, h⟩ => .inr ⟨o, hs _ _ h⟩)) .inr
  obtain ⟨its, rv, ⟨o, ho, hc, na, hd⟩, _⟩ := I.tuple hsq
  have hp := piled_le_tupleText ts
  have hsz0 : (tupleText ts).length ≤ sizeLine := by omega
  have hlen : ts.length = its.toArray.size := by rw [hl, rv.length]; simp
  rw [tuple_repr_tree, tupleReprUnderWay_eq]
  refine wpOwn_bind (wpOwn_stackTailAny lo.gd (tupGuardF_off _) (tupGuardF_pos _) ?_)
  rw [show (g.any fun c => tupGuardF (.ref a) (c, default)) = false from List.any_eq_false.mpr fun c hc => by
    rw [tupGuardF_of_clear (hcl a List.mem_cons_self) c hc]
    exact Bool.false_ne_true]
  refine wpOwn_of_wpAny ?_
  show wpAny _ _ (tupleReprRest base (.ref a)) _ _ s
  unfold tupleReprRest Builtin.Tuple.tupleItemsOf
  refine wpAny_bind (wpAny_bind (wpAny_seqItems ho hd (wpAny_pure ?_)))
  rw [← Array.forIn_toList]
  refine wpAny_bind (wpAny_mono (tup_fold (lo.guard hg hw hu he) (fun b hb => (hcl b (List.mem_cons_of_mem _ hb)).cons (a := a) fun e => hna (e ▸ hb)) xs its ts #[] base s H1 rv hl hit (by omega) I hs
    (Q := fun r s2 => r = ⟨#[] ++ ts.toArray, base + piled ts⟩ ∧ ∃ H2, Inv X pins σ H2 s2 ∧ Same H1 H2) fun s2 H2 I2 e2 => ⟨rfl, H2, I2, e2⟩) (fun r s2 k => ?_) fun e s2 k => bad e s2 k)
  obtain ⟨er, H2, I2, e2⟩ := k
  subst er
  refine wpAny_bind (wpAny_mkStr (wpAny_pure ?_) (by simpa [tupleText, hlen] using hsz0))
  have h1 := fin _ H2 s2.toks (I2.tok (s2.toks + 1)) e2
  simpa [tupleText, hlen] using h1
theorem says_tup (hq : SqT X.K H a xs) (hna : a ∉ as) (hl : ts.length = xs.length) (hit : ∀ (i : Nat) (x : V), xs[i]? = some x → ∃ t, ts[i]? = some t ∧ Says X n as H x t) : Says X (n + 2) (a :: as) H (.ref a) (tupleText ts) := by
  refine ⟨fun A g base pins s σ H1 u lo cl I hs ru hz => ?_, fun A g pins s σ H1 u lo cl I hs ru hz => ?_⟩
  all_goals
    cases ru
    have hsq : SqT X.K H1 a xs := hq.elim (fun h => .inl (h.elim (fun h => .inl (hs _ _ h)) fun ⟨o, h⟩ => .inr ⟨o, hs _ _ h⟩)) .inr
    obtain ⟨its, rv, ⟨o, ho, hc, na, hd⟩, _⟩ := I.tuple hsq
  · refine wpAny_pyReprUnder_ref (by omega) (wpAny_pyReprObjUnder_twin (twin := "tuple.__repr__.under") ⟨o, ho, hc⟩ PySem.F.slot_tuple_repr rfl lo.rm.units0
      (call_twin_own (PySem.F.quiet_tuple_repr_under _) PySem.F.entry_tuple_repr_under PySem.F.check_tuple_repr_under ⟨o, ho, hc⟩ PySem.F.slot_tuple_repr (PySem.F.args_tuple_repr_1 _)
        (tup_body (R := callEnd _ _) (lo.mono (by omega)) cl hna hit hl hz hq I hs (by show (if Code.isGuard _ then _ else _) = _; rw [isGuard_tuple_repr_under]; rfl) (by simp only [Code.weight, isGuard_tuple_repr_under]; rfl) (by rfl) (by first | rfl | simp [Code.envs, Code.isFrame])
          (fun s2 H2 tk I2 e2 => ⟨⟨_, _, rfl⟩, _, _, rfl, rfl, H2, I2, e2⟩) fun e s2 he => he)))
  · have h1 := lo.rm.units
    refine call_repr_slot (by omega) ⟨o, ho, hc⟩ PySem.F.slot_tuple_repr (wpAny_call (codeAny_call_builtin_own (Code.quiet_builtin _ (by decide +kernel)) PySem.F.entry_tuple_repr (PySem.F.slot_tuple_repr.check _ _ _ _ _ _ _ _ ⟨o, ho, hc⟩ (PySem.F.args_tuple_repr_1 _)
      (tup_body (A := A.in1) (base := 0) (R := callEnd _ _) lo.in1 cl hna hit hl (by omega) hq I hs (by show (if Code.isGuard _ then _ else _) = _; rw [isGuard_tuple_repr]; rfl) (by simp only [Code.weight, isGuard_tuple_repr]; rfl) (by rfl) (by first | rfl | simp [Code.envs, Code.isFrame])
        (fun s2 H2 tk I2 e2 => ⟨_, _, rfl, ⟨_, rfl⟩, H2, I2, e2⟩) fun e s2 he => he))))
end
end Rp
/-! repr of dicts, by the abstract heap: the dict is locked while its parts are told -/
namespace Rp
open PySem PySem.Spec PyProof.Rows L2
theorem pairs_at {P : Program} {w : World} : ∀ {es : List DictEntry} {vs : List (Key × Value)} {kvs : List (Key × V)}, Pairs (mixKind P w) es vs → KV kvs vs → ∀ (i : Nat) (e : DictEntry), es[i]? = some e → ∃ k v, kvs[i]? = some (k, v) ∧ RelV (kV k) e.key ∧ RelV v e.val := by
  intro es
  induction es with
  | nil => intro vs kvs _ _ i e h; cases h
  | cons x es ih =>
    intro vs kvs p r i e h
    cases p with
    | @cons _ kv _ vs' hk hv p' =>
      cases r with
      | @cons q _ qs _ h1 r' =>
        cases i with
        | zero =>
          cases h
          exact ⟨q.1, q.2, rfl, h1.1 ▸ relV_key hk, hv ▸ h1.2⟩
        | succ j =>
          exact ih p' r' j e h
section
variable {X : Cx} {n : Nat} {as : List Addr} {H : Hp} {a : Addr} {kvs : List (Key × V)} {ts : List Str} {base : Nat} {g : List Code} {A : Around} {pins : List (Addr × Obj)} {σ : L2.St}
/-- what is told of the parts, the dict locked -/
def Parts (X : Cx) (n : Nat) (as : List Addr) (H : Hp) (kvs : List (Key × V)) (ts : List Str) : Prop := ts.length = kvs.length ∧ ∀ (i : Nat) (k : Key) (v : V), kvs[i]? = some (k, v) → ∃ t1 t2 : Str, ts[i]? = some (t1 ++ ": " ++ t2) ∧ Says X n as H (kV k) t1 ∧ Says X n as H v t2
theorem dict_body {id : String} {rest : List Value} {od : Obj} (lo : Low X (n + 1) g A) (hcl : ∀ b ∈ a :: as, Clear g b) (hna : a ∉ as) (hp : Parts X n as H kvs ts)
    (hsz : base + (dictText ts).length ≤ sizeLine) (hq : H a = some (.frz od (.dK kvs))) {s : Shared} {H1 : Hp} (I : Inv X pins σ H1 s) (hs : Same H H1) {R : Result → Shared → Prop}
    (hg : (Code.builtin id ⟨.ref a :: rest, []⟩).guards = [Code.builtin id ⟨.ref a :: rest, []⟩]) (hw : (Code.builtin id ⟨.ref a :: rest, []⟩).weight = 1) (hu : (Code.builtin id ⟨.ref a :: rest, []⟩).cUnits = 1) (he : (Code.builtin id ⟨.ref a :: rest, []⟩).envs = [])
    (fin : ∀ s H2 u, Inv X pins σ H2 s → Same H1 H2 → R (.ok (.ret (.str (dictText ts) u))) s) (bad : ∀ e s, X.xe e s → R (.error e) s) :
    wpOwn (model X.prog X.w) A (.builtin id ⟨.ref a :: rest, []⟩) (Builtin.dictReprAt base ⟨[.ref a], []⟩) (fun fin s' => match fin with | .done f => R (.ok f) s' | .again c' => c'.quiet = true ∧ codeAny (model X.prog X.w) A c' R s') (fun e s' => R (.error e) s') s := by
  obtain ⟨hl, hit⟩ := hp
  obtain ⟨sys, ho, hx, es, ep, vs, hd, len, kv, _, es2, ho2, _, hd2, _, pr, _⟩ := I.frzK (hs _ _ hq)
  cases ho.symm.trans ho2
  cases hd.symm.trans hd2
  have ent := pairs_at pr kv
  have still : ∀ {H2 : Hp} {s2 : Shared}, Inv X pins σ H2 s2 → Same H1 H2 → s2.heap.get? a = some od := fun {H2 s2} I2 e2 => (I2.frzK (e2 _ _ (hs _ _ hq))).2.1
  have ty : s.TypeIs (.ref a) "dict" := ⟨od, ho, hx.1⟩
  have big := piled_le_dictText ts
  have small : (dictText ts).length ≤ sizeLine := by omega
  have lts : ts.length = es.size := by omega
  unfold Builtin.dictReprAt Builtin.Dict.dictSlotNone
  refine wpOwn_bind (wpOwn_of_wpAny (wpAny_bind (wpAny_notOrdered_dict ty ?_)))
  show wpAny (model X.prog X.w) _ (pure (Value.ref a)) _ _ s
  refine wpAny_pure ?_
  rw [dictReprRunning_eq]
  refine wpOwn_bind (wpOwn_stackTailAny lo.gd (dictGuardF_off _) (dictGuardF_pos _) ?_)
  have none_ : (g.any fun c => dictGuardF (.ref a) (c, default)) = false := List.any_eq_false.mpr fun c hc => by
    rw [dictGuardF_of_clear (hcl a List.mem_cons_self) c hc]
    exact Bool.false_ne_true
  rw [none_]
  refine wpOwn_of_wpAny ?_
  have lo2 := lo.guard hg hw hu he
  have cl2 : ∀ b ∈ as, Clear (Code.builtin id ⟨.ref a :: rest, []⟩ :: g) b := fun b hb => (hcl b (List.mem_cons_of_mem _ hb)).cons (a := a) fun e => hna (e ▸ hb)
  show wpAny (model X.prog X.w) _ (Builtin.Dict.addrOf (.ref a) >>= _) _ _ s
  refine wpAny_bind (wpAny_pure ?_)
  show wpAny (model X.prog X.w) _ (Builtin.Dict.showsAll a >>= _) _ _ s
  unfold Builtin.Dict.showsAll
  rw [sys]
  refine wpAny_bind (wpAny_pure (wpAny_bind (wpAny_dictEpoch ho hd (wpAny_bind (wpAny_dictEntries ho hd (wpAny_bind ?_))))))
  rw [Std.Legacy.Range.forIn_eq_forIn_range']
  simp only [Std.Legacy.Range.size, Nat.sub_zero, Nat.add_sub_cancel, Nat.div_one]
  refine wpAny_mono (E := X.xe) (wpAny_forIn_list _ (fun l r s2 => ∃ i H2, l = List.range' i (es.size - i) ∧ i ≤ es.size ∧ r = (⟨(ts.take i).toArray, base + piled (ts.take i)⟩ : (Array Str × Nat)) ∧ Inv X pins σ H2 s2 ∧ Same H1 H2)
    (fun r s2 => ∃ H2, r = (⟨ts.toArray, base + piled ts⟩ : (Array Str × Nat)) ∧ Inv X pins σ H2 s2 ∧ Same H1 H2) ?_ ?_ _ _ ⟨0, H1, by simp, Nat.zero_le _, by simp [piled], I, Same.refl _⟩) (fun r s2 k => ?_) fun e s2 k => bad e s2 k
  · rintro x l _ s2 ⟨i, H2, hr, hi, rfl, I2, e2⟩
    have lt : i < es.size := by
      rcases Nat.lt_or_ge i es.size with z | z
      · exact z
      · rw [Nat.sub_eq_zero_of_le z] at hr; cases hr
    have step : es.size - i = (es.size - (i + 1)) + 1 := by omega
    rw [step, List.range'_succ] at hr
    injection hr with h1 h2
    subst h1 h2
    have ge : es.toList[x]? = some es[x] := by simp [lt]
    obtain ⟨k, v, gk, rk, rv⟩ := ent x _ ge
    obtain ⟨t1, t2, gt, sk, sv⟩ := hit x k v gk
    have l3 : (t1 ++ ": " ++ t2 : Str).length = t1.length + 2 + t2.length := by rw [strLen_append, strLen_append]; rfl
    have p1 := piled_take_succ gt
    have p2 := piled_take_le ts (x + 1)
    rw [l3] at p1
    refine wpAny_bind (wpAny_dictEntries (still I2 e2) hd ?_)
    rw [Array.getElem?_eq_getElem lt]
    refine wpAny_bind (wpAny_holding (wpAny_bind (wpAny_mono (sk.und _ _ (base + piled (ts.take x) + 1) pins s2 σ H2 _ lo2 cl2 I2 (hs.trans e2) rk (by omega)) (fun r3 s3 k3 => ?_) fun _ _ q => q)))
    obtain ⟨rfl, H3, I3, e3⟩ := k3
    refine wpAny_bind (wpAny_mono (sv.und _ _ (base + piled (ts.take x) + (r3.length + 3)) pins s3 σ H3 _ lo2 cl2 I3 (hs.trans (e2.trans e3)) rv (by omega)) (fun r4 s4 k4 => ?_) fun _ _ q => q)
    obtain ⟨rfl, H4, I4, e4⟩ := k4
    have e5 := e2.trans (e3.trans e4)
    refine wpAny_pure (wpAny_bind (wpAny_dictEpoch (still I4 e5) hd ?_))
    rw [if_neg (by simp)]
    refine wpAny_pure ⟨x + 1, H4, rfl, lt, ?_, I4, e5⟩
    have q1 : (ts.take x).toArray.push (r3 ++ ": " ++ r4) = (ts.take (x + 1)).toArray := by simp [List.take_add_one, gt]
    have q2 : base + piled (ts.take x) + (r3.length + r4.length + 4) = base + piled (ts.take (x + 1)) := by omega
    rw [q1, q2]
  · rintro r s2 ⟨i, H2, hr, hi, rfl, I2, e2⟩
    have ei : i = ts.length := by
      rcases Nat.lt_or_ge i es.size with z | z
      · have step : es.size - i = (es.size - (i + 1)) + 1 := by omega
        rw [step, List.range'_succ] at hr; cases hr
      · omega
    rw [ei, List.take_length]
    exact ⟨H2, rfl, I2, e2⟩
  · obtain ⟨H2, rfl, I2, e2⟩ := k
    refine wpAny_bind (wpAny_mkStr (wpAny_pure ?_) (by simpa [dictText] using small))
    have q := fin _ H2 s2.toks (I2.tok (s2.toks + 1)) e2
    simpa [dictText] using q
theorem same_over {H1 : Hp} {u : HO} (e : Same H H1) : Same (upd H a u) (upd H1 a u) := fun y o h => by
  by_cases z : y = a
  · rw [z, upd_same] at h ⊢
    exact h
  · rw [upd_ne z] at h ⊢
    exact e _ _ h
theorem says_dict (hq : H a = some (.dK kvs)) (hna : a ∉ as) (hp : ∀ od, Parts X n as (upd H a (.frz od (.dK kvs))) kvs ts) : Says X (n + 2) (a :: as) H (.ref a) (dictText ts) := by
  have mu : Mut (some (.dK kvs)) := trivial
  have open_ : ∀ {H1 H2 : Hp} {od : Obj}, Same H H1 → Same (upd H1 a (.frz od (.dK kvs))) H2 → Same H1 (upd H2 a (.dK kvs)) := fun {H1 H2 od} e e2 y o h => by
    by_cases z : y = a
    · rw [z, e _ _ hq] at h
      rw [z, upd_same]
      exact h
    · rw [upd_ne z]
      exact e2 _ _ (by rw [upd_ne z]; exact h)
  refine ⟨fun A g base pins s σ H1 u lo cl I hs ru hz => ?_, fun A g pins s σ H1 u lo cl I hs ru hz => ?_⟩
  all_goals
    cases ru
    have h1 := hs _ _ hq
    have hn := I.nofrz h1 mu
    obtain ⟨od, IL⟩ := I.lock h1 mu
    obtain ⟨_, ho, hx, _⟩ := IL.frzK upd_same
    have ps : Parts X n as (upd H1 a (.frz od (.dK kvs))) kvs ts := ⟨(hp od).1, fun i k v hv => let ⟨t1, t2, a1, a2, a3⟩ := (hp od).2 i k v hv; ⟨t1, t2, a1, a2.grow (same_over hs), a3.grow (same_over hs)⟩⟩
  · refine wpAny_pyReprUnder_ref (by omega) (wpAny_pyReprObjUnder_twin (twin := "dict.__repr__.under") ⟨od, ho, hx.1⟩ PySem.F.slot_dict_repr rfl lo.rm.units0
      (call_twin_own (PySem.F.quiet_dict_repr_under _) PySem.F.entry_dict_repr_under PySem.F.check_dict_repr_under ⟨od, ho, hx.1⟩ PySem.F.slot_dict_repr (PySem.F.args_dict_repr_1 _)
        (dict_body (R := callEnd _ _) (lo.mono (by omega)) cl hna ps hz upd_same IL (Same.refl _) (by show (if Code.isGuard _ then _ else _) = _; rw [isGuard_dict_repr_under]; rfl) (by simp only [Code.weight, isGuard_dict_repr_under]; rfl) (by rfl) (by first | rfl | simp [Code.envs, Code.isFrame])
          (fun s2 H2 tk I2 e2 => ⟨⟨_, _, rfl⟩, _, _, rfl, rfl, _, I2.unlock (e2 _ _ upd_same) hn, open_ hs e2⟩) fun e s2 he => he)))
  · have h2 := lo.rm.units
    refine call_repr_slot (by omega) ⟨od, ho, hx.1⟩ PySem.F.slot_dict_repr (wpAny_call (codeAny_call_builtin_own (Code.quiet_builtin _ (by decide +kernel)) PySem.F.entry_dict_repr (PySem.F.slot_dict_repr.check _ _ _ _ _ _ _ _ ⟨od, ho, hx.1⟩ (PySem.F.args_dict_repr_1 _)
      (dict_body (A := A.in1) (base := 0) (R := callEnd _ _) lo.in1 cl hna ps (by omega) upd_same IL (Same.refl _) (by show (if Code.isGuard _ then _ else _) = _; rw [isGuard_dict_repr]; rfl) (by simp only [Code.weight, isGuard_dict_repr]; rfl) (by rfl) (by first | rfl | simp [Code.envs, Code.isFrame])
        (fun s2 H2 tk I2 e2 => ⟨_, _, rfl, ⟨_, rfl⟩, _, I2.unlock (e2 _ _ upd_same) hn, open_ hs e2⟩) fun e s2 he => he))))
end
end Rp
/-! an instance whose __init__ may raise, within a try -/
namespace Rp
open PySem PySem.Spec PyProof.Rows L2
section
variable {X : Cx} {CX : CXT} {k : Nat} {f C : Addr} {fd : FuncData} {ps : List Str} {sp : Sp} {E : L2.St → XK} {x : Str} {p pos : Pos} {e : Expr} {es : List Expr} {t : TA}
theorem made_here {pins : List (Addr × Obj)} {σ : L2.St} {H : Hp} {s : Shared} {Q : VK} {us : List Value} {vs : List V} (M : Mk X.K C f) (F : FnOk X.prog X.w X.K X.mg X.base CX k f fd ps sp) (hr : Room (k + 1) X.A) (hb : Binds X.K fd ps []) (hx : PassesAt CX X σ (E σ))
    (I : Inv X pins σ H s) (r : Vals vs us) (h : ∀ x dx, H x = none → H dx = none → dx ≠ x → sp (.ref x :: vs) (upd (upd H dx (.own x)) x (.ins C dx [])) (fun v H2 => v = .non ∧ Q (.ref x) H2) (E σ)) :
    wpAny (model X.prog X.w) X.A (call (.ref C) us) (EP X pins σ Q) X.xe s := by
  have I' := Inv.made (C := C) I
  have rs : Vals (V.ref (s.heap.objs.size + 1) :: vs) (Value.ref (s.heap.objs.size + 1) :: us) := .cons rfl r
  have hsp := h (s.heap.objs.size + 1) s.heap.objs.size (I.hok.fresh (Nat.le_add_right _ _)) (I.hok.fresh (Nat.le_refl _)) (Nat.ne_of_lt (Nat.lt_succ_self _))
  have many : (Value.ref (s.heap.objs.size + 1) :: us).length = ps.length := rs.length ▸ F.len _ _ _ _ hsp
  have bt := hb _ _ I'.kIn (by rw [List.append_nil]; exact many)
  rw [List.append_nil] at bt
  refine wpAny_call (make_map (f := f) I.kIn M.makes M.init (beq_iff_eq.mp M.fn) (codeAny_mono (F.run _ X.stack _ _ _ _ _ _ (E σ) (hr.make C us []) (I'.env0.make C us []) bt rs hsp) fun out s2 k2 => ?_))
  rcases out with er | fl
  rotate_left
  · cases fl with
    | ret u =>
      obtain ⟨v, H2, I2, rv, rfl, q⟩ := I'.after k2
      exact ⟨rv, V.ref (s.heap.objs.size + 1), H2, I2, rfl, q⟩
    | next => exact k2.elim
    | brk => exact k2.elim
    | cont => exact k2.elim
  · exact hx pins _ _ er s2 I' k2
def tMakeS (C : Addr) (sp : Sp) (E : L2.St → XK) (t : TA) : TE := fun σ H Q => t σ H fun vs H1 => ∀ x dx, H1 x = none → H1 dx = none → dx ≠ x →
  sp (.ref x :: vs) (upd (upd H1 dx (.own x)) x (.ins C dx [])) (fun v H2 => v = .non ∧ Q (.ref x) H2) (E σ)
theorem pe_makeS (M : Mk X.K C f) (F : FnOk X.prog X.w X.K X.mg X.base CX k f fd ps sp) (hr : Room (k + 1) X.A) (hg : Gl X x) (hm : X.mg x = some (.ref C)) (hb : Binds X.K fd ps []) (hx : ∀ σ, PassesAt CX X σ (E σ))
    (ha : PA X (e :: es) t) (hdb : (x == ("__debug__" : Str)) = false := by decide) (he : starEach (e :: es) X.env = (false, eval e X.env) :: starEach es X.env := by rfl) (hpl : (backTo pos (starEach es X.env)).any (·.1) = false := by rfl) :
    PE X (.Call (.Name x p) (e :: es) [] pos) (tMakeS C sp E t) :=
  ⟨fun pins s σ H Q I h => wpAny_Call_Name_kw (ld_glob I hg hm (PySem.W.callWith_K (h₀ := X.base) I.ok.mod.kin M.kp (thn (ha.run pos pins s σ H _ I h) fun us s1 ⟨vs, H1, I1, r, q⟩ => ⟨I1.kIn, made_here M F hr hb (hx σ) I1 r q⟩) he hpl) hdb)⟩
end
end Rp
namespace K
open PySem L2 Rp
/-! ### the text by places -/
/-! ### decks -/
def DeckAt (H : Hp) (d : Addr) : Prop := ∃ a b c : Int, H d = some (.lst [.int a, .int b, .int c])

/-! ### promises -/
def spWhole (K : PySem.W.Frag) : Sp := fun vs H Q _ => ∃ n : Int, vs = [.int n] ∧ Q (.bl true) H
/-- a whole number, or not -/
def isW : V → Bool
  | .int _ => true
  | _ => false
/-- a value whose kind is known -/
def Wh (K : PySem.W.Frag) (H : Hp) (v : V) : Prop := ∃ tv b1 b2, TyX K H v tv ∧ PySem.W.kitOne K tv (.type "int") = some b1 ∧ PySem.W.kitOne K tv (.type "bool") = some b2 ∧ isW v = (b1 && !b2)
theorem wh_int {K : PySem.W.Frag} {H : Hp} {i : Int} : Wh K H (.int i) := ⟨_, true, false, .base (.int i), kit_ty (by decide +kernel), kit_ty (by decide +kernel), rfl⟩
def spWholeV (K : PySem.W.Frag) : Sp := fun vs H Q _ => ∃ v : V, vs = [v] ∧ Wh K H v ∧ Q (.bl (isW v)) H
def spDeck : Sp := fun vs H Q _ => ∃ n : Int, vs = [.int n] ∧ ∀ p, H p = none → ∀ H', DeckAt H' p → (∀ b, b ≠ p → H' b = H b) → Q (.ref p) H'
def spDraw : Sp := fun vs H Q _ => ∃ (d : Addr) (m : Int), vs = [.ref d, .int m] ∧ 0 < m ∧ m < 1073741824 ∧ DeckAt H d ∧ ∀ r : Int, 0 ≤ r → r < m → ∀ H', DeckAt H' d → (∀ b, b ≠ d → H' b = H b) → Q (.int r) H'

/-- what the built-in names hold -/
structure Blt (mg : Str → Option Value) : Prop where
  isi : mg "isinstance" = none
  int : mg "int" = none
  bool : mg "bool" = none

section
variable {P : Program} {w : World} {K : PySem.W.Frag} {mg : Str → Option Value} {base : Heap}
theorem FnOk.ints {n : Nat} {f : Addr} {fd : FuncData} {x : Str} (F : FnOk P w K mg base CX0 n f fd [x] (spWholeV K)) : FnOk P w K mg base CX0 n f fd [x] (spWhole K) :=
  F.imp fun vs H Q E h => let ⟨i, e, q⟩ := h; ⟨.int i, e, wh_int, q⟩
end
section
variable {P : Program} {w : World} {K : PySem.W.Frag} {mg : Str → Option Value} {base : Heap}
theorem ix3 {a b c : V} : atI [a, b, c] (0 : Int) = some a ∧ atI [a, b, c] (1 : Int) = some b ∧ atI [a, b, c] (2 : Int) = some c := ⟨rfl, rfl, rfl⟩
end
/-! ### the law's own gcd -/
theorem gcd_turn {c d : Int} (hc : 0 ≤ c) (hd : 0 ≤ d) : Int.gcd d (c % d) = Int.gcd c d := by
  obtain ⟨m, rfl⟩ := Int.eq_ofNat_of_zero_le hc
  obtain ⟨n, rfl⟩ := Int.eq_ofNat_of_zero_le hd
  show Nat.gcd n (m % n) = Nat.gcd m n
  rw [Nat.gcd_comm n, ← Nat.gcd_rec, Nat.gcd_comm]
def spDiv : Sp := fun vs H Q _ => ∃ a b : Int, vs = [.int a, .int b] ∧ 0 ≤ a ∧ 0 ≤ b ∧ Q (.int (Int.gcd a b : Nat)) H
section
variable {P : Program} {w : World} {K : PySem.W.Frag} {mg : Str → Option Value} {base : Heap}
end
/-! ### sizes -/
/-- below 2 ^ m in size -/
def Sz (m : Nat) (x : Int) : Prop := x.natAbs < 2 ^ m
theorem Sz.mono {a b : Nat} {x : Int} (h : Sz a x) (hab : a ≤ b) : Sz b x := Nat.lt_of_lt_of_le h (Nat.pow_le_pow_right (by decide) hab)
theorem Sz.mul {a b : Nat} {x y : Int} (hx : Sz a x) (hy : Sz b y) : Sz (a + b) (x * y) := wide_lt hx hy
theorem Sz.add {a : Nat} {x y : Int} (hx : Sz a x) (hy : Sz a y) : Sz (a + 1) (x + y) := by
  have h := Int.natAbs_add_le x y
  unfold Sz at *
  rw [Nat.pow_succ]
  omega
theorem Sz.sub {a : Nat} {x y : Int} (hx : Sz a x) (hy : Sz a y) : Sz (a + 1) (x - y) := by
  have h := Int.natAbs_sub_le x y
  unfold Sz at *
  rw [Nat.pow_succ]
  omega
theorem Sz.div {a : Nat} {x : Int} (hx : Sz a x) (y : Int) : Sz a (x / y) := Nat.lt_of_le_of_lt (Int.natAbs_ediv_le_natAbs x y) hx
theorem Sz.log {a : Nat} {x : Int} (hx : Sz a x) (h0 : 0 < a) : x.natAbs.log2 < a := PySem.Flt.log2_lt_of h0 hx
theorem Sz.mulOk {a b : Nat} {x y : Int} (hx : Sz a x) (hy : Sz b y) (h0 : 0 < a) (h1 : 0 < b) (h : a + b ≤ 1000000) : CMulW x y := wide_mul hx hy h0 h1 h
theorem gcd_pos {t b : Int} (hb : 0 < b) : 0 < ((Int.gcd t b : Nat) : Int) := by
  have : Int.gcd t b ≠ 0 := fun z => by
    have := Int.gcd_eq_zero_iff.mp z
    omega
  omega
theorem gcd_le {t b : Int} (hb : 0 < b) : ((Int.gcd t b : Nat) : Int) ≤ b := by
  have h := Int.gcd_dvd_right t b
  exact Int.le_of_dvd hb h
theorem Sz.gcd {a : Nat} {t b : Int} (h : Sz a b) (hb : 0 < b) : Sz a ((Int.gcd t b : Nat) : Int) := by
  have h1 := gcd_le (t := t) hb
  have h2 := gcd_pos (t := t) hb
  unfold Sz at *
  omega

/-! ### Weights -/
theorem tb_ : ¬ (("top" : Str) = "bottom") := by decide +kernel
theorem bt_ : ¬ (("bottom" : Str) = "top") := by decide +kernel
/-- a Weight's fields, as __init__ stores them -/
def wf (t b : Int) : List (Str × V) := putF "bottom" (.int b) (putF "top" (.int t) [])
theorem wf_top (t b : Int) : (wf t b).lookup ("top" : Str) = some (.int t) := by
  unfold wf
  rw [lookup_putF, if_neg tb_, lookup_putF, if_pos rfl]
theorem wf_bottom (t b : Int) : (wf t b).lookup ("bottom" : Str) = some (.int b) := by
  unfold wf
  rw [lookup_putF, if_pos rfl]
theorem wf_no (t b : Int) {m : Str} (h1 : ¬ m = "top") (h2 : ¬ m = "bottom") : (wf t b).lookup m = none := by
  unfold wf
  rw [lookup_putF, if_neg h2, lookup_putF, if_neg h1]
  all_goals rfl
/-- a Weight t / b stands at p -/
def WAt (C : Addr) (H : Hp) (p : Addr) (t b : Int) : Prop := ∃ dx, H p = some (.ins C dx (wf t b))
theorem WAt.same {C : Addr} {H H' : Hp} {p : Addr} {t b : Int} (h : WAt C H p t b) (e : Same H H') : WAt C H' p t b := let ⟨dx, h⟩ := h; ⟨dx, e _ _ h⟩
theorem same_make {H : Hp} {x dx C : Addr} {fs : List (Str × V)} (nx : H x = none) (ndx : H dx = none) : Same H (upd (upd (upd H dx (.own x)) x (.ins C dx [])) x (.ins C dx fs)) := fun b o e => by
  rw [upd_ne (ne_of_none e nx), upd_ne (ne_of_none e nx), upd_ne (ne_of_none e ndx)]
  exact e

/-- what the top holds of the class Weight, at C -/
structure WTxt (K : PySem.W.Frag) (mg : Str → Option Value) (C fW : Addr) : Prop where
  cl : Cls K C
  nT : NoAttr K C "top"
  nB : NoAttr K C "bottom"
  mgC : mg "Weight" = some (.ref C)
  mgW : mg "is_whole" = some (.ref fW)
  kpW : PySem.W.keepIn K (.ref fW) = true
  gcd : mg "gcd" = some (.builtin "math.gcd")

def spInit (C : Addr) : Sp := fun vs H Q _ => ∃ (p dx : Addr) (t b : Int), vs = [.ref p, .int t, .int b] ∧ H p = some (.ins C dx []) ∧ 0 ≤ t ∧ 0 < b ∧ Sz 8000 b ∧
  Q .non (upd H p (.ins C dx (wf (t / (Int.gcd t b : Nat)) (b / (Int.gcd t b : Nat)))))

/-- as FunD.ok, of a def that lets nothing out -/
theorem FunD_ok0 {P : Program} {w : World} {K : PySem.W.Frag} {mg : Str → Option Value} {base : Heap} {x qual : Str} {params : Arguments} {body : List Stmt} {scope : Scope} {dvs : List V} {kws : List (Str × V)} {f : Addr} {fd : FuncData} {N ps : List Str} {k : Nat} {sp : Sp}
    (F : FunD K x qual params body scope dvs kws f fd) (S : FnScope N ps scope) (len : ∀ vs H Q E, sp vs H Q E → vs.length = ps.length)
    (hbody : ∀ (cdv : Value) (A : Around) (outer : List PySem.Env) (s : Shared) (H : Hp) (vs : List V) (Q : VK) (E : XK), Room k (A.deeper (PyProof.Rows.envOfC qual scope s.heap.objs.size f cdv)) → sp vs H Q E →
      ∃ t, PSs (cxOf CX0 P w K mg base N qual scope f cdv A outer s H E).nox body t ∧ t { nx := fun _ H' => Q .non H', rt := Q } (start N vs) H) : FnOk P w K mg base CX0 (k + 1) f fd ps sp :=
  F.ok S len fun cdv A outer s H vs Q E hr h => let ⟨t, h1, h2⟩ := hbody cdv A outer s H vs Q E hr h; ⟨t, h1.nox, h2⟩

section
variable {P : Program} {w : World} {K : PySem.W.Frag} {mg : Str → Option Value} {base : Heap}
end
/-- a Weight's numbers, below 2 ^ m -/
structure Wn (m : Nat) (t b : Int) : Prop where
  t0 : 0 ≤ t
  b0 : 0 < b
  tz : Sz m t
  bz : Sz m b
theorem Wn.mono {m n : Nat} {t b : Int} (h : Wn m t b) (hm : m ≤ n) : Wn n t b := ⟨h.t0, h.b0, h.tz.mono hm, h.bz.mono hm⟩
/-- lowest terms -/
def lowT (t b : Int) : Int := t / ((Int.gcd t b : Nat) : Int)
def lowB (t b : Int) : Int := b / ((Int.gcd t b : Nat) : Int)
theorem Wn.low {m : Nat} {t b : Int} (h : Wn m t b) : Wn m (lowT t b) (lowB t b) := by
  have hg := gcd_pos (t := t) h.b0
  have hd := Int.gcd_dvd_right t b
  refine ⟨Int.ediv_nonneg h.t0 (Int.le_of_lt hg), ?_, h.tz.div _, h.bz.div _⟩
  exact Int.ediv_pos_of_pos_of_dvd h.b0 (Int.le_of_lt hg) hd

/-- a def of the module, as its callers want it -/
structure Cl (K : PySem.W.Frag) (mg : Str → Option Value) (x : Str) (f : Addr) (fd : FuncData) (ps : List Str) : Prop where
  g : mg x = some (.ref f)
  k : PySem.W.keepIn K (.ref f) = true
  b : Binds K fd ps []
/-- what isinstance asks of an own class's instance -/
structure WIns (K : PySem.W.Frag) (C : Addr) : Prop where
  ha : PySem.W.findIn K (.ref C) "__class__" = some (some (.builtin "object.__class__"))
  hn : PySem.W.specialIn K (.builtin "object.__class__") "__get__" = some (some (.builtin "getset_descriptor.__get__"))
  htk : PySem.W.takesIn K (.builtin "object.__class__") = some true
  hm : PySem.W.mroIn K C (.type "object") = some true
theorem kit_self {K : PySem.W.Frag} {C : Addr} : PySem.W.kitOne K (.ref C) (.ref C) = some true := by
  unfold PySem.W.kitOne
  rw [if_pos (by simp)]

def spLow : Sp := fun vs H Q _ => ∃ t b : Int, vs = [.int t, .int b] ∧ 0 ≤ t ∧ 0 < b ∧ Sz 8000 b ∧ ∀ p, H p = none → Q (.ref p) (upd H p (.tup [.int (lowT t b), .int (lowB t b)]))
/-- _law_is of a Weight that is what it should be -/
def spIs (C : Addr) : Sp := fun vs H Q _ => ∃ (p : Addr) (t b : Int), vs = [.ref p, .int t, .int b] ∧ 0 ≤ t ∧ 0 < b ∧ Sz 8000 b ∧ WAt C H p (lowT t b) (lowB t b) ∧ ∀ H', Same H H' → Q (.bl true) H'

section
variable {P : Program} {w : World} {K : PySem.W.Frag} {mg : Str → Option Value} {base : Heap}
end
/-- all but d is kept, what is free was free -/
structure Fw (d : Addr) (H H' : Hp) : Prop where
  kp : ∀ q o, q ≠ d → H q = some o → H' q = some o
  nn : ∀ p, H' p = none → H p = none
theorem Fw.refl (d : Addr) (H : Hp) : Fw d H H := ⟨fun _ _ _ h => h, fun _ h => h⟩
theorem Fw.trans {d : Addr} {H H1 H2 : Hp} (a : Fw d H H1) (b : Fw d H1 H2) : Fw d H H2 := ⟨fun q o n h => b.kp q o n (a.kp q o n h), fun p h => a.nn p (b.nn p h)⟩
theorem Fw.draw {d : Addr} {H H' : Hp} (h : DeckAt H' d) (e : ∀ b, b ≠ d → H' b = H b) : Fw d H H' := ⟨fun q o n h => (e q n).trans h, fun p hp => by
  by_cases z : p = d
  · obtain ⟨_, _, _, h⟩ := h
    rw [z, h] at hp
    cases hp
  · rw [← e p z]; exact hp⟩
theorem Fw.upd {d p : Addr} {H : Hp} {o : HO} (hp : H p = none) : Fw d H (upd H p o) := ⟨fun q u n h => by rw [upd_ne (ne_of_none h hp)]; exact h, fun q h => by
  by_cases z : q = p
  · rw [z, upd_same] at h; cases h
  · rw [upd_ne z] at h; exact h⟩
theorem Fw.same {d : Addr} {H H' : Hp} (e : Same H H') : (∀ p, H' p = none → H p = none) := fun p h => by
  cases q : H p with
  | none => rfl
  | some o => rw [e p o q] at h; cases h
theorem Fw.of_same {d : Addr} {H H' : Hp} (e : Same H H') : Fw d H H' := ⟨fun q o _ h => e q o h, Fw.same (d := d) e⟩
theorem DeckAt.upd {d p : Addr} {H : Hp} {o : HO} (h : DeckAt H d) (hp : H p = none) : DeckAt (upd H p o) d := by
  obtain ⟨a, b, c, h⟩ := h
  exact ⟨a, b, c, by rw [upd_ne (ne_of_none h hp)]; exact h⟩
theorem DeckAt.same {d : Addr} {H H' : Hp} (h : DeckAt H d) (e : Same H H') : DeckAt H' d := let ⟨a, b, c, h⟩ := h; ⟨a, b, c, e _ _ h⟩
theorem DeckAt.ne {d p : Addr} {H : Hp} (h : DeckAt H d) (hp : H p = none) : p ≠ d := fun z => by
  obtain ⟨_, _, _, h⟩ := h
  rw [z, h] at hp
  cases hp

theorem tYes_of {σ : L2.St} {H : Hp} {Q : Bool → Hp → Prop} (h : Q true H) : tYes σ H Q := h

def spTwo : Sp := fun vs H Q _ => ∃ d : Addr, vs = [.ref d] ∧ DeckAt H d ∧ ∀ (p : Addr) (t b : Int) (H' : Hp), 0 ≤ t → t ≤ 1000000000000 → 0 < b → b ≤ 1000000000000 → H p = none → H' p = some (.tup [.int t, .int b]) → DeckAt H' d → Fw d H H' → Q (.ref p) H'

section
variable {P : Program} {w : World} {K : PySem.W.Frag} {mg : Str → Option Value} {base : Heap}
end
/-- a number's text -/
def nT (n : Int) : Str := Str.ofString (toString n)
theorem nT_len {n : Int} (h : Sz 1600 n) : (nT n).length ≤ 1601 := by
  unfold nT
  rw [ofString_length]
  exact int_text_length_le (by decide) (h.log (by decide))
theorem append_len (x y : Str) : (x ++ y).length = x.length + y.length := strLen_append x y
theorem join_one (x : Str) : Txt.join "" [x] = x := rfl
/-- a Weight's text by repr -/
def wT (t b : Int) : Str := if b = 1 then Str.empty ++ "Weight(" ++ nT t ++ ")" else Str.empty ++ "Weight(" ++ nT t ++ ", " ++ nT b ++ ")"
theorem wT_len {t b : Int} (ht : Sz 1600 t) (hb : Sz 1600 b) : (wT t b).length ≤ 4000 := by
  have h1 := nT_len ht
  have h2 := nT_len hb
  have e1 : ("Weight(" : Str).length = 7 := by decide +kernel
  have e2 : (")" : Str).length = 1 := by decide +kernel
  have e3 : (", " : Str).length = 2 := by decide +kernel
  have e4 : (Str.empty : Str).length = 0 := by decide +kernel
  unfold wT
  split <;> simp only [append_len] <;> omega

def spShow : Sp := fun vs H Q _ => ∃ n : Int, vs = [.int n] ∧ 0 ≤ n ∧ Sz 1600 n ∧ ∀ H', Same H H' → Q (.str (nT n)) H'
def spRepr (C : Addr) : Sp := fun vs H Q _ => ∃ (p : Addr) (t b : Int), vs = [.ref p] ∧ WAt C H p t b ∧ Wn 1600 t b ∧ ∀ H', Same H H' → Q (.str (wT t b)) H'

section
variable {P : Program} {w : World} {K : PySem.W.Frag} {mg : Str → Option Value} {base : Heap}
end
theorem same_upd {H : Hp} {p : Addr} {o : HO} (hp : H p = none) : Same H (upd H p o) := fun y u e => by
  rw [upd_ne (ne_of_none e hp)]
  exact e
/-- an exception's class without an __init__ of its own -/
structure XTxt (K : PySem.W.Frag) (mg : Str → Option Value) (x : Str) (C : Addr) (bm : List Value) (newId : String) : Prop where
  g : mg x = some (.ref C)
  q : PySem.W.excIn K C bm newId = true
  k : PySem.W.keepIn K (.ref C) = true
  b : PySem.W.subIn K (.ref C) (.type "BaseException") = some true
  t : PySem.W.typeIn K (.ref C) = some (.type "type")
abbrev bmZ : List Value := [.type "ZeroDivisionError", .type "ArithmeticError", .type "Exception", .type "BaseException", .type "object"]
abbrev bmV : List Value := [.type "ValueError", .type "Exception", .type "BaseException", .type "object"]
def good (x y : V) : Prop := ∃ t b : Int, x = .int t ∧ y = .int b ∧ 0 ≤ t ∧ 0 < b
def spInitV (K : PySem.W.Frag) (C NZ NW : Addr) : Sp := fun vs H Q E => ∃ (p dx : Addr) (x y : V), vs = [.ref p, x, y] ∧ H p = some (.ins C dx []) ∧ Wh K H x ∧ Wh K H y ∧
  (y = .int 0 → E (.ref NZ) none H) ∧ (y ≠ .int 0 → ¬ good x y → E (.ref NW) none H) ∧
  (∀ t b : Int, x = .int t → y = .int b → 0 ≤ t → 0 < b → Sz 8000 b ∧ Q .non (upd H p (.ins C dx (wf (t / (Int.gcd t b : Nat)) (b / (Int.gcd t b : Nat))))))
theorem isW_int {v : V} (h : isW v = true) : ∃ i, v = .int i := by
  cases v <;> first | exact ⟨_, rfl⟩ | cases h
section
variable {P : Program} {w : World} {K : PySem.W.Frag} {mg : Str → Option Value} {base : Heap}
end
/-- the module's x is a class; b: whether S is below it -/
def IsC (K : PySem.W.Frag) (mg : Str → Option Value) (S : Addr) (x : Str) (b : Bool) : Prop := ∃ A, mg x = some (.ref A) ∧ PySem.W.kitOne K (.ref S) (.ref A) = some b
/-- what the marks ask of the error's class S -/
structure MTxt (K : PySem.W.Frag) (mg : Str → Option Value) (S : Addr) : Prop where
  e : ExcC K S
  i : mg "isinstance" = none
  c1 : IsC K mg S "NoName" false
  c2 : IsC K mg S "NoGrains" false
  c3 : IsC K mg S "NoDay" false
  c4 : IsC K mg S "NoWeight" true
  c5 : IsC K mg S "NoDeed" false
  c6 : IsC K mg S "NoRow" false
  c7 : IsC K mg S "NoText" false
  c8 : IsC K mg S "Unknown" false
  c9 : IsC K mg S "Unborne" false
  d1 : IsC K mg S "Twice" false
  d2 : IsC K mg S "TooLate" false
  d3 : IsC K mg S "NoSum" false
  d4 : IsC K mg S "Full" false
  d5 : IsC K mg S "NotAlike" false
  k : IsC K mg S "CaskError" true
  w : IsC K mg S "Wrong" true
  v : mg "ValueError" = none
  kv : PySem.W.kitOne K (.ref S) (.type "ValueError") = some true
theorem HasD.same {H H' : Hp} {d : Option Addr} (h : HasD H d) (e : Same H H') : HasD H' d := h.imp id fun ⟨dx, fs, h1, h2⟩ => ⟨dx, fs, h1, e _ _ h2⟩
def spMarks (S : Addr) : SpE := fun a cls d vs H Q _ => ∃ b : Bool, vs = [.ref a, .bl b] ∧ cls = .ref S ∧ HasD H d ∧ ∀ (m : Addr) (H' : Hp), Same H H' → H m = none → H' m = some (.lst [.bl b, .bl true, .bl true, .int 1]) → Q (.ref m) H'
section
variable {P : Program} {w : World} {K : PySem.W.Frag} {mg : Str → Option Value} {base : Heap}
end
section
variable {P : Program} {w : World} {K : PySem.W.Frag} {mg : Str → Option Value} {base : Heap}
end
/-! things of any kind: what repr tells of them is settled, their kinds are known -/
def Asc (z : Str) : Prop := ∀ c ∈ z.cps.toList, c < 128
theorem asc_lit (x : Str) (h : x.cps.toList.all (fun c => decide (c < 128)) = true) : Asc x := fun c hc => of_decide_eq_true (List.all_eq_true.mp h c hc)
inductive Th (C : Addr) (H : Hp) : Nat → Nat → List Addr → V → Prop where
  | non {n L as} : 4 ≤ L → Th C H n L as .non
  | bl {n L as} (b : Bool) : 5 ≤ L → Th C H n L as (.bl b)
  | int {n L as} {i : Int} : Sz 1600 i → 1601 ≤ L → Th C H n L as (.int i)
  | str {n L as} {x : Str} : Asc x → x.length ≤ 10000 → (reprText x).length ≤ L → (reprText x).length ≤ sizeLine → Th C H n L as (.str x)
  | wt {n L as p t b} : 3 ≤ n → p ∈ as → WAt C H p t b → Wn 1600 t b → 4000 ≤ L → Th C H n L as (.ref p)
  | tup {n L n' L' as as' a xs} : H a = some (.tup xs) → a ∉ as → (∀ v ∈ xs, Th C H n L as v) → n + 2 ≤ n' → xs.length * (L + 2) + 3 ≤ L' → (∀ b, b ∈ a :: as → b ∈ as') → Th C H n' L' as' (.ref a)
  | lst {n L n' L' as as' a xs} : H a = some (.lst xs) → a ∉ as → (∀ v ∈ xs, Th C H n L as v) → n + 2 ≤ n' → xs.length * (L + 2) + 3 ≤ L' → (∀ b, b ∈ a :: as → b ∈ as') → Th C H n' L' as' (.ref a)
  | dic {n L n' L' as as' a} {kvs : List (Key × V)} : H a = some (.dK kvs) → a ∉ as → (∀ kv ∈ kvs, Th C H n L as (kV kv.1)) → (∀ kv ∈ kvs, Th C H n L as kv.2) → n + 2 ≤ n' → kvs.length * (2 * L + 4) + 3 ≤ L' → (∀ b, b ∈ a :: as → b ∈ as') → Th C H n' L' as' (.ref a)
section
variable {C : Addr} {H H' : Hp} {n L m M : Nat} {as as' : List Addr} {v : V}
theorem Th.mono (h : Th C H n L as v) (h1 : n ≤ m) (h2 : L ≤ M) (h3 : ∀ b ∈ as, b ∈ as') : Th C H m M as' v := by
  cases h with
  | non q => exact .non (Nat.le_trans q h2)
  | bl b q => exact .bl b (Nat.le_trans q h2)
  | int i q => exact .int i (Nat.le_trans q h2)
  | str a l q z => exact .str a l (Nat.le_trans q h2) z
  | wt a b c d e => exact .wt (Nat.le_trans a h1) (h3 _ b) c d (Nat.le_trans e h2)
  | tup a b c d e f => exact .tup a b c (Nat.le_trans d h1) (Nat.le_trans e h2) fun x q => h3 _ (f x q)
  | lst a b c d e f => exact .lst a b c (Nat.le_trans d h1) (Nat.le_trans e h2) fun x q => h3 _ (f x q)
  | dic a b c c' d e f => exact .dic a b c c' (Nat.le_trans d h1) (Nat.le_trans e h2) fun x q => h3 _ (f x q)
theorem Th.congr (h : Th C H n L as v) : (∀ b ∈ as, ∀ o, H b = some o → H' b = some o) → Th C H' n L as v := by
  induction h with
  | non q => exact fun _ => .non q
  | bl b q => exact fun _ => .bl b q
  | int i q => exact fun _ => .int i q
  | str a l q z => exact fun _ => .str a l q z
  | wt a b c d e => exact fun x => .wt a b (let ⟨dx, hc⟩ := c; ⟨dx, x _ b _ hc⟩) d e
  | tup a b c d e f ih => exact fun x => .tup (x _ (f _ List.mem_cons_self) _ a) b (fun v hv => ih v hv fun y hy => x y (f y (List.mem_cons_of_mem _ hy))) d e f
  | lst a b c d e f ih => exact fun x => .lst (x _ (f _ List.mem_cons_self) _ a) b (fun v hv => ih v hv fun y hy => x y (f y (List.mem_cons_of_mem _ hy))) d e f
  | dic a b c c' d e f ih1 ih2 => exact fun x => .dic (x _ (f _ List.mem_cons_self) _ a) b (fun v hv => ih1 v hv fun y hy => x y (f y (List.mem_cons_of_mem _ hy))) (fun v hv => ih2 v hv fun y hy => x y (f y (List.mem_cons_of_mem _ hy))) d e f
end
/-! its text -/
theorem pick {α : Type} {p : α → Str → Prop} : ∀ xs : List α, (∀ v ∈ xs, ∃ t, p v t) → ∃ ts : List Str, ts.length = xs.length ∧ (∀ t ∈ ts, ∃ v, v ∈ xs ∧ p v t) ∧ ∀ (i : Nat) (x : α), xs[i]? = some x → ∃ t, ts[i]? = some t ∧ p x t
  | [], _ => ⟨[], rfl, fun t ht => (nomatch ht), fun i x h => by cases h⟩
  | x :: xs, h => by
    obtain ⟨t, ht⟩ := h x List.mem_cons_self
    obtain ⟨ts, h1, h2, h3⟩ := pick xs fun v hv => h v (List.mem_cons_of_mem _ hv)
    refine ⟨t :: ts, by rw [List.length_cons, List.length_cons, h1], fun u hu => ?_, fun i y hy => ?_⟩
    · rcases List.mem_cons.mp hu with rfl | hu
      · exact ⟨x, List.mem_cons_self, ht⟩
      · obtain ⟨v, hv, q⟩ := h2 u hu
        exact ⟨v, List.mem_cons_of_mem _ hv, q⟩
    · cases i with
      | zero => cases hy; exact ⟨t, rfl, ht⟩
      | succ i => exact h3 i y hy
theorem piled_le {B : Nat} : ∀ ts : List Str, (∀ t ∈ ts, t.length ≤ B) → piled ts ≤ ts.length * (B + 2)
  | [], _ => Nat.le_of_eq (by simp [piled])
  | t :: ts, h => by
    have ih := piled_le ts fun u hu => h u (List.mem_cons_of_mem _ hu)
    have h0 := h t List.mem_cons_self
    rw [piled_cons, List.length_cons, Nat.add_mul]
    omega
theorem join_le {B : Nat} {ts : List Str} (h : ∀ t ∈ ts, t.length ≤ B) : (Str.join ", " ts).length ≤ ts.length * (B + 2) := by
  have hp := piled_le ts h
  by_cases e : ts = []
  · subst e
    exact Nat.zero_le _
  · have := join_length_add ts e
    omega
theorem tupleText_le {B : Nat} {ts : List Str} (h : ∀ t ∈ ts, t.length ≤ B) : (tupleText ts).length ≤ ts.length * (B + 2) + 3 := by
  have hj := join_le h
  unfold tupleText
  rw [strLen_append, strLen_append]
  have e1 : ((("(" : String) : Str)).length = 1 := rfl
  have e3 : (((if ts.length == 1 then ",)" else ")" : String) : Str)).length ≤ 2 := by split <;> decide
  omega
theorem dictText_le {B : Nat} {ts : List Str} (h : ∀ t ∈ ts, t.length ≤ B) : (dictText ts).length ≤ ts.length * (B + 2) + 3 := by
  have hj := join_le h
  unfold dictText
  rw [strLen_append, strLen_append]
  have e1 : ((("{" : String) : Str)).length = 1 := rfl
  have e3 : ((("}" : String) : Str)).length = 1 := rfl
  omega
theorem sum_piled : ∀ ts : List Str, (ts.map (·.length)).sum + 2 * ts.length = piled ts
  | [] => rfl
  | t :: ts => by
    have ih := sum_piled ts
    rw [piled_cons, List.map_cons, List.sum_cons, List.length_cons]
    omega
theorem listText_le {B : Nat} {ts : List Str} (h : ∀ t ∈ ts, t.length ≤ B) : (listText ts).length ≤ ts.length * (B + 2) + 3 := by
  have hp := piled_le ts h
  have h1 := textFrom_len_le ts 0 "["
  have h2 := sum_piled ts
  unfold listText
  rw [strLen_append]
  have e1 : ((("[" : String) : Str)).length = 1 := rfl
  have e3 : ((("]" : String) : Str)).length = 1 := rfl
  omega
section
variable {P : Program} {w : World} {K : PySem.W.Frag} {mg : Str → Option Value} {base : Heap}
/-- what is asked of a context -/
structure Ctx (X : Cx) (P : Program) (w : World) (K : PySem.W.Frag) (mg : Str → Option Value) (base : Heap) : Prop where
  p : X.prog = P
  w : X.w = w
  K : X.K = K
  mg : X.mg = mg
  base : X.base = base
/-- v's text is t, wherever the parts named as stand -/
def Tells (P : Program) (w : World) (K : PySem.W.Frag) (mg : Str → Option Value) (base : Heap) (n L : Nat) (as : List Addr) (H : Hp) (v : V) (t : Str) : Prop :=
  t.length ≤ L ∧ ∀ X : Cx, Ctx X P w K mg base → ∀ H', (∀ b ∈ as, ∀ o, H b = some o → H' b = some o) → Says X n as H' v t
theorem Th.tells {C fR : Addr} {fd : FuncData} (aR : PySem.W.findIn K (.ref C) "__repr__" = some (some (.ref fR))) (iR : PySem.W.isFn K (.ref fR) = true) (bR : Binds K fd ["self"] []) (GR : FnOk P w K mg base CX0 2 fR fd ["self"] (spRepr C))
    {H : Hp} {n L : Nat} {as : List Addr} {v : V} (h : Th C H n L as v) : ∃ t, Tells P w K mg base n L as H v t := by
  induction h with
  | non q => exact ⟨("None" : String), q, fun X _ H' _ => says_non.mono (Nat.zero_le _) fun _ z => nomatch z⟩
  | bl b q => exact ⟨(if b then "True" else "False" : String), by cases b <;> first | exact q | exact Nat.le_trans (by decide) q, fun X _ H' _ => (says_bl b).mono (Nat.zero_le _) fun _ z => nomatch z⟩
  | @int n L as i z q =>
    refine ⟨_, Nat.le_trans (nT_len z) q, fun X _ H' _ => (says_int (Nat.lt_trans (z.log (by decide)) (by decide))).mono (Nat.zero_le _) fun _ z => nomatch z⟩
  | str a l q z => exact ⟨_, q, fun X _ H' _ => (says_str z).mono (Nat.zero_le _) fun _ z => nomatch z⟩
  | @wt n L as p t b hn hm hw nn q =>
    refine ⟨wT t b, Nat.le_trans (wT_len nn.tz nn.bz) q, fun X c H' e => ?_⟩
    obtain ⟨rfl, rfl, rfl, rfl, rfl⟩ := c
    obtain ⟨dx, hp⟩ := hw
    refine (says_own (t := wT t b) GR aR iR bR pass0 (e p hm _ hp) fun H1 s1 => ?_).mono hn fun _ z => nomatch z
    exact ⟨p, t, b, rfl, ⟨dx, s1 _ _ (e p hm _ hp)⟩, nn, fun H2 s2 => ⟨rfl, s2⟩⟩
  | @tup n L n' L' as as' a xs h1 h2 h3 h4 h5 h6 ih =>
    obtain ⟨ts, e1, e2, e3⟩ := pick (p := fun v t => Tells P w K mg base n L as H v t) xs ih
    refine ⟨tupleText ts, Nat.le_trans (tupleText_le (B := L) fun t ht => let ⟨_, _, q⟩ := e2 t ht; q.1) (by rw [e1]; exact h5), fun X c H' e => ?_⟩
    refine (says_tup (n := n) (as := as) (ts := ts) (SqT.of (e a (h6 a List.mem_cons_self) _ h1)) h2 e1 fun i x hx => ?_).mono h4 h6
    obtain ⟨t, ht, q⟩ := e3 i x hx
    exact ⟨t, ht, q.2 X c H' fun b hb => e b (h6 b (List.mem_cons_of_mem _ hb))⟩
  | @lst n L n' L' as as' a xs h1 h2 h3 h4 h5 h6 ih =>
    obtain ⟨ts, e1, e2, e3⟩ := pick (p := fun v t => Tells P w K mg base n L as H v t) xs ih
    refine ⟨listText ts, Nat.le_trans (listText_le (B := L) fun t ht => let ⟨_, _, q⟩ := e2 t ht; q.1) (by rw [e1]; exact h5), fun X c H' e => ?_⟩
    refine (says_lst (n := n) (as := as) (ts := ts) (SqL.of (e a (h6 a List.mem_cons_self) _ h1)) h2 e1 fun i x hx => ?_).mono h4 h6
    obtain ⟨t, ht, q⟩ := e3 i x hx
    exact ⟨t, ht, q.2 X c H' fun b hb => e b (h6 b (List.mem_cons_of_mem _ hb))⟩
  | @dic n L n' L' as as' a kvs h1 h2 h3 h3' h4 h5 h6 ih1 ih2 =>
    obtain ⟨ts, e1, e2, e3⟩ := pick (p := fun (kv : Key × V) t => ∃ t1 t2 : Str, t = t1 ++ ": " ++ t2 ∧ Tells P w K mg base n L as H (kV kv.1) t1 ∧ Tells P w K mg base n L as H kv.2 t2) kvs fun kv hk => by
      obtain ⟨t1, q1⟩ := ih1 kv hk
      obtain ⟨t2, q2⟩ := ih2 kv hk
      exact ⟨_, t1, t2, rfl, q1, q2⟩
    have l2 : ((": " : String) : Str).length = 2 := rfl
    refine ⟨dictText ts, Nat.le_trans (dictText_le (B := 2 * L + 2) fun t ht => ?_) (by rw [e1]; exact h5), fun X c H' e => ?_⟩
    · obtain ⟨_, _, t1, t2, rfl, q1, q2⟩ := e2 t ht
      rw [strLen_append, strLen_append]
      have := q1.1
      have := q2.1
      omega
    · refine (says_dict (n := n) (as := as) (ts := ts) (kvs := kvs) (e a (h6 a List.mem_cons_self) _ h1) h2 fun od => ⟨e1, fun i k v hkv => ?_⟩).mono h4 h6
      obtain ⟨t, ht, t1, t2, rfl, q1, q2⟩ := e3 i (k, v) hkv
      have up : ∀ b ∈ as, ∀ o, H b = some o → (upd H' a (.frz od (.dK kvs))) b = some o := fun b hb o ho => by
        rw [upd_ne (fun z : b = a => h2 (z ▸ hb))]
        exact e b (h6 b (List.mem_cons_of_mem _ hb)) o ho
      exact ⟨t1, t2, ht, q1.2 X c _ up, q2.2 X c _ up⟩
/-- its kind -/
theorem Th.wh {C : Addr} {H : Hp} {n L : Nat} {as : List Addr} {v : V} (h : Th C H n L as v) (cl : Cls K C) (N : WIns K C) (ki : PySem.W.kitOne K (.ref C) (.type "int") = some false) (kb : PySem.W.kitOne K (.ref C) (.type "bool") = some false) : Wh K H v := by
  cases h with
  | non q => exact ⟨_, false, false, .base .non, kit_ty (by decide +kernel), kit_ty (by decide +kernel), rfl⟩
  | bl b q => exact ⟨_, true, true, .base (.bl b), kit_ty (by decide +kernel), kit_ty (by decide +kernel), rfl⟩
  | int i q => exact wh_int
  | str a l q z => exact ⟨_, false, false, .base (.str _), kit_ty (by decide +kernel), kit_ty (by decide +kernel), rfl⟩
  | wt a b c d e =>
    obtain ⟨dx, hp⟩ := c
    exact ⟨_, false, false, .base (.ins hp cl N.ha N.hn N.htk N.hm), ki, kb, rfl⟩
  | tup a b c d e f => exact ⟨_, false, false, .base (.tup a), kit_ty (by decide +kernel), kit_ty (by decide +kernel), rfl⟩
  | lst a b c d e f => exact ⟨_, false, false, .base (.lst a), kit_ty (by decide +kernel), kit_ty (by decide +kernel), rfl⟩
  | dic a b c c' d e f => exact ⟨_, false, false, .base (.dK a), kit_ty (by decide +kernel), kit_ty (by decide +kernel), rfl⟩
end
/-! a thing that doesn't speak of the deck d -/
def Od (C d : Addr) (N M : Nat) (H : Hp) (v : V) : Prop := ∃ as, d ∉ as ∧ (∀ b ∈ as, H b ≠ none) ∧ Th C H N M as v
section
variable {C d : Addr} {H H' : Hp} {N M N' M' : Nat} {v : V}
theorem Od.fw {C d : Addr} {H H' : Hp} {N M : Nat} {v : V} (h : Od C d N M H v) (f : Fw d H H') : Od C d N M H' v := by
  obtain ⟨as, h1, h2, h3⟩ := h
  refine ⟨as, h1, fun b hb z => h2 b hb (f.nn b z), h3.congr fun b hb o ho => f.kp b o (fun z => h1 (z ▸ hb)) ho⟩
theorem Od.same (h : Od C d N M H v) (e : Same H H') : Od C d N M H' v := h.fw (Fw.of_same e)
theorem Od.mono (h : Od C d N M H v) (h1 : N ≤ N') (h2 : M ≤ M') : Od C d N' M' H v := by
  obtain ⟨as, a, b, c⟩ := h
  exact ⟨as, a, b, c.mono h1 h2 fun _ z => z⟩
theorem od_non (h : 4 ≤ M) : Od C d N M H .non := ⟨[], List.not_mem_nil, (fun b hb => nomatch hb), .non h⟩
theorem od_bl {b : Bool} (h : 5 ≤ M) : Od C d N M H (.bl b) := ⟨[], List.not_mem_nil, (fun b hb => nomatch hb), .bl b h⟩
theorem od_int {i : Int} (z : Sz 1600 i) (h : 1601 ≤ M) : Od C d N M H (.int i) := ⟨[], List.not_mem_nil, (fun b hb => nomatch hb), .int z h⟩
theorem od_str {x : Str} (a : Asc x) (l : x.length ≤ 10000) (h : (reprText x).length ≤ M) (z : (reprText x).length ≤ sizeLine) : Od C d N M H (.str x) := ⟨[], List.not_mem_nil, (fun b hb => nomatch hb), .str a l h z⟩
theorem od_wt {p : Addr} {t b : Int} (h : WAt C H p t b) (n : Wn 1600 t b) (nd : p ≠ d) (h1 : 3 ≤ N) (h2 : 4000 ≤ M) : Od C d N M H (.ref p) := by
  refine ⟨[p], fun z => nd (List.mem_singleton.mp z).symm, fun b hb e => ?_, .wt h1 List.mem_cons_self h n h2⟩
  obtain ⟨dx, hp⟩ := h
  rw [List.mem_singleton.mp hb, hp] at e
  cases e
/-- several at once -/
theorem od_all {xs : List V} (h : ∀ v ∈ xs, Od C d N M H v) : ∃ as, d ∉ as ∧ (∀ b ∈ as, H b ≠ none) ∧ ∀ v ∈ xs, Th C H N M as v := by
  induction xs with
  | nil => exact ⟨[], List.not_mem_nil, fun b hb => (nomatch hb), fun v hv => nomatch hv⟩
  | cons x xs ih =>
    obtain ⟨as, a1, a2, a3⟩ := ih fun v hv => h v (List.mem_cons_of_mem _ hv)
    obtain ⟨bs, b1, b2, b3⟩ := h x List.mem_cons_self
    refine ⟨bs ++ as, fun z => (List.mem_append.mp z).elim b1 a1, fun b hb => (List.mem_append.mp hb).elim (b2 b) (a2 b), fun v hv => ?_⟩
    rcases List.mem_cons.mp hv with rfl | hv
    · exact b3.mono (Nat.le_refl _) (Nat.le_refl _) fun b hb => List.mem_append_left _ hb
    · exact (a3 v hv).mono (Nat.le_refl _) (Nat.le_refl _) fun b hb => List.mem_append_right _ hb
theorem od_tup {a : Addr} {xs : List V} (ha : H a = none) (nd : a ≠ d) (h : ∀ v ∈ xs, Od C d N M H v) (h1 : N + 2 ≤ N') (h2 : xs.length * (M + 2) + 3 ≤ M') : Od C d N' M' (upd H a (.tup xs)) (.ref a) := by
  obtain ⟨as, a1, a2, a3⟩ := od_all h
  have na : a ∉ as := fun z => a2 a z ha
  have up : ∀ b ∈ as, ∀ o, H b = some o → (upd H a (.tup xs)) b = some o := fun b hb o ho => by
    rw [upd_ne (fun z : b = a => na (z ▸ hb))]
    exact ho
  refine ⟨a :: as, fun z => (List.mem_cons.mp z).elim (fun z => nd z.symm) a1, fun b hb z => ?_, .tup upd_same na (fun v hv => (a3 v hv).congr up) h1 h2 fun b hb => hb⟩
  by_cases e : b = a
  · rw [e, upd_same] at z
    cases z
  · rw [upd_ne e] at z
    exact a2 b ((List.mem_cons.mp hb).resolve_left e) z
theorem od_lst {a : Addr} {xs : List V} (ha : H a = none) (nd : a ≠ d) (h : ∀ v ∈ xs, Od C d N M H v) (h1 : N + 2 ≤ N') (h2 : xs.length * (M + 2) + 3 ≤ M') : Od C d N' M' (upd H a (.lst xs)) (.ref a) := by
  obtain ⟨as, a1, a2, a3⟩ := od_all h
  have na : a ∉ as := fun z => a2 a z ha
  have up : ∀ b ∈ as, ∀ o, H b = some o → (upd H a (.lst xs)) b = some o := fun b hb o ho => by
    rw [upd_ne (fun z : b = a => na (z ▸ hb))]
    exact ho
  refine ⟨a :: as, fun z => (List.mem_cons.mp z).elim (fun z => nd z.symm) a1, fun b hb z => ?_, .lst upd_same na (fun v hv => (a3 v hv).congr up) h1 h2 fun b hb => hb⟩
  by_cases e : b = a
  · rw [e, upd_same] at z
    cases z
  · rw [upd_ne e] at z
    exact a2 b ((List.mem_cons.mp hb).resolve_left e) z
theorem od_dic {a : Addr} {kvs : List (Key × V)} (ha : H a = none) (nd : a ≠ d) (h : ∀ kv ∈ kvs, Od C d N M H kv.2 ∧ ∃ k : Int, kv.1 = .inl k ∧ Sz 1600 k) (hM : 1601 ≤ M) (h1 : N + 2 ≤ N') (h2 : kvs.length * (2 * M + 4) + 3 ≤ M') : Od C d N' M' (upd H a (.dK kvs)) (.ref a) := by
  obtain ⟨as, a1, a2, a3⟩ := od_all (xs := kvs.map (·.2)) fun v hv => by
    obtain ⟨kv, hk, rfl⟩ := List.mem_map.mp hv
    exact (h kv hk).1
  have na : a ∉ as := fun z => a2 a z ha
  have up : ∀ b ∈ as, ∀ o, H b = some o → (upd H a (.dK kvs)) b = some o := fun b hb o ho => by
    rw [upd_ne (fun z : b = a => na (z ▸ hb))]
    exact ho
  refine ⟨a :: as, fun z => (List.mem_cons.mp z).elim (fun z => nd z.symm) a1, fun b hb z => ?_, .dic upd_same na (fun kv hk => ?_) (fun kv hk => (a3 _ (List.mem_map.mpr ⟨kv, hk, rfl⟩)).congr up) h1 h2 fun b hb => hb⟩
  · by_cases e : b = a
    · rw [e, upd_same] at z
      cases z
    · rw [upd_ne e] at z
      exact a2 b ((List.mem_cons.mp hb).resolve_left e) z
  · obtain ⟨_, k, ek, zk⟩ := h kv hk
    rw [ek]
    exact .int zk hM
end
theorem al0 {p : V → Prop} : ∀ v ∈ ([] : List V), p v := fun _ h => nomatch h
theorem al {p : V → Prop} {x : V} {xs : List V} (h : p x) (t : ∀ v ∈ xs, p v) : ∀ v ∈ x :: xs, p v := fun v hv => (List.mem_cons.mp hv).elim (fun e => e ▸ h) (t v)
theorem at_in {xs : List V} {q : Int} (h0 : 0 ≤ q) (h1 : q < (xs.length : Int)) : ∃ v, atI xs q = some v ∧ v ∈ xs := by
  have h2 : q.toNat < xs.length := by omega
  have e : xs[q.toNat]? = some xs[q.toNat] := List.getElem?_eq_getElem h2
  refine ⟨_, ?_, List.getElem_mem h2⟩
  have e2 := atI_nat e
  rwa [Int.toNat_of_nonneg h0] at e2
def spOdd (C : Addr) : Sp := fun vs H Q _ => ∃ d : Addr, vs = [.ref d] ∧ DeckAt H d ∧ ∀ (v : V) (H' : Hp), Od C d 20 300000 H' v → DeckAt H' d → Fw d H H' → Q v H'
def Ld : Nat → Nat
  | 0 => 1601
  | n + 1 => 2 * Ld n + 7
theorem Ld_big : ∀ n, 1601 ≤ Ld n
  | 0 => Nat.le_refl _
  | n + 1 => by
    have := Ld_big n
    show 1601 ≤ 2 * Ld n + 7
    omega
section
variable {P : Program} {w : World} {K : PySem.W.Frag} {mg : Str → Option Value} {base : Heap}
end
def WhS (K : PySem.W.Frag) (H : Hp) (v : V) : Prop := ∀ H', Same H H' → Wh K H' v
theorem WhS.same {K : PySem.W.Frag} {H H' : Hp} {v : V} (h : WhS K H v) (e : Same H H') : WhS K H' v := fun H2 e2 => h H2 (e.trans e2)
def spHeard (K : PySem.W.Frag) (C : Addr) : Sp := fun vs H Q _ => ∃ x y : V, vs = [x, y] ∧ WhS K H x ∧ WhS K H y ∧
  (y = .int 0 → ∀ (r m : Addr) (H' : Hp), Same H H' → H' r = some (.lst [.non, .ref m]) → H' m = some (.lst [.str "whole", .bl true, .bl false]) → Q (.ref r) H') ∧
  (y ≠ .int 0 → ¬ good x y → ∀ (r m n : Addr) (H' : Hp), Same H H' → H' r = some (.lst [.non, .ref m]) → H' m = some (.lst [.str "weight", .bl true, .ref n]) → H' n = some (.lst [.bl true, .bl true, .bl true, .int 1]) → Q (.ref r) H') ∧
  (∀ t b : Int, x = .int t → y = .int b → 0 ≤ t → 0 < b → Sz 8000 b ∧ ∀ (r m p : Addr) (H' : Hp), Same H H' → H' r = some (.lst [.ref p, .ref m]) → H' m = some (.lst []) → WAt C H' p (lowT t b) (lowB t b) → Q (.ref r) H')
section
variable {P : Program} {w : World} {K : PySem.W.Frag} {mg : Str → Option Value} {base : Heap}
end
/-- two things that are told of -/
def Pr (C : Addr) (H : Hp) (x y : V) : Prop := ∃ as, (∀ b ∈ as, H b ≠ none) ∧ Th C H 20 300000 as x ∧ Th C H 20 300000 as y
def spRight (C : Addr) : Sp := fun vs H Q _ => ∃ x y : V, vs = [x, y] ∧ Pr C H x y ∧ ∀ H', Same H H' → Q (.bl true) H'
theorem Th.small {C : Addr} {H : Hp} {n L : Nat} {as : List Addr} {i : Int} (h : Th C H n L as (.int i)) : Sz 1600 i := by
  cases h with
  | int z _ => exact z
section
variable {P : Program} {w : World} {K : PySem.W.Frag} {mg : Str → Option Value} {base : Heap}
theorem pair_says {X : Cx} {H H' : Hp} {as : List Addr} {x y : V} {tx ty : Str} {p : Addr} (c : Ctx X P w K mg base) (h1 : Tells P w K mg base 20 300000 as H x tx) (h2 : Tells P w K mg base 20 300000 as H y ty) (e : Same H H') (hb : ∀ b ∈ as, H b ≠ none) (hp : H' p = none) :
    Says X 22 (p :: as) (upd H' p (.tup [x, y])) (.ref p) (tupleText [tx, ty]) := by
  have e2 : ∀ b ∈ as, ∀ o, H b = some o → (upd H' p (.tup [x, y])) b = some o := fun b _ o ho => same_upd hp _ _ (e _ _ ho)
  refine says_tup (n := 20) (ts := [tx, ty]) (SqT.of upd_same) (fun z => ?_) rfl fun i v hv => ?_
  · have := hb p z
    exact this (Fw.same (d := p) e p hp)
  · match i, hv with
    | 0, hv => cases hv; exact ⟨tx, rfl, h1.2 X c _ e2⟩
    | 1, hv => cases hv; exact ⟨ty, rfl, h2.2 X c _ e2⟩
    | i + 2, hv => cases hv
end
/-- pairs of things -/
def PrsO (C d : Addr) (H : Hp) (xs : List V) : Prop := ∀ v ∈ xs, ∃ (a : Addr) (x y : V), v = .ref a ∧ a ≠ d ∧ H a = some (.tup [x, y]) ∧ Od C d 20 300000 H x ∧ Od C d 20 300000 H y
/-- pairs of things that are no objects -/
def PrsA (C d : Addr) (H : Hp) (xs : List V) : Prop := ∀ v ∈ xs, ∃ (a : Addr) (x y : V), v = .ref a ∧ a ≠ d ∧ H a = some (.tup [x, y]) ∧ (∀ H, Od C d 20 300000 H x) ∧ (∀ H, Od C d 20 300000 H y)
section
variable {C d : Addr} {H H' : Hp} {xs ys : List V} {a : Addr} {x y : V}
theorem PrsO.fw (h : PrsO C d H xs) (f : Fw d H H') : PrsO C d H' xs := fun v hv => let ⟨a, x, y, h1, h2, h3, h4, h5⟩ := h v hv; ⟨a, x, y, h1, h2, f.kp a _ h2 h3, h4.fw f, h5.fw f⟩
theorem PrsO.add (h : PrsO C d H xs) (ha : H a = none) (nd : a ≠ d) (ox : Od C d 20 300000 H x) (oy : Od C d 20 300000 H y) : PrsO C d (upd H a (.tup [x, y])) (xs ++ [.ref a]) := fun v hv => by
  have f := Fw.upd (d := d) (o := .tup [x, y]) ha
  rcases List.mem_append.mp hv with z | z
  · exact h.fw f v z
  · exact ⟨a, x, y, List.mem_singleton.mp z, nd, upd_same, ox.fw f, oy.fw f⟩
theorem PrsO.cat (h : PrsO C d H xs) (h2 : PrsO C d H ys) : PrsO C d H (xs ++ ys) := fun v hv => (List.mem_append.mp hv).elim (h v) (h2 v)
theorem PrsA.fw (h : PrsA C d H xs) (f : Fw d H H') : PrsA C d H' xs := fun v hv => let ⟨a, x, y, h1, h2, h3, h4, h5⟩ := h v hv; ⟨a, x, y, h1, h2, f.kp a _ h2 h3, h4, h5⟩
theorem PrsA.add (h : PrsA C d H xs) (ha : H a = none) (nd : a ≠ d) (ox : ∀ H, Od C d 20 300000 H x) (oy : ∀ H, Od C d 20 300000 H y) : PrsA C d (upd H a (.tup [x, y])) (xs ++ [.ref a]) := fun v hv => by
  have f := Fw.upd (d := d) (o := .tup [x, y]) ha
  rcases List.mem_append.mp hv with z | z
  · exact h.fw f v z
  · exact ⟨a, x, y, List.mem_singleton.mp z, nd, upd_same, ox, oy⟩
theorem PrsA.cat (h : PrsA C d H xs) (h2 : PrsA C d H ys) : PrsA C d H (xs ++ ys) := fun v hv => (List.mem_append.mp hv).elim (h v) (h2 v)
theorem PrsA.write {l : Addr} {zs us : List V} (h : PrsA C d H xs) (hl : H l = some (.lst zs)) : PrsA C d (upd H l (.lst us)) xs := fun v hv => by
  obtain ⟨a, x, y, h1, h2, h3, h4, h5⟩ := h v hv
  refine ⟨a, x, y, h1, h2, ?_, h4, h5⟩
  rw [upd_ne (fun z => by rw [z, hl] at h3; cases h3)]
  exact h3
theorem PrsA.o (h : PrsA C d H xs) : PrsO C d H xs := fun v hv => let ⟨a, x, y, h1, h2, h3, h4, h5⟩ := h v hv; ⟨a, x, y, h1, h2, h3, h4 _, h5 _⟩
end
theorem Fw.at {d l : Addr} {H H' : Hp} {o : HO} (f : Fw d H H') (h0 : H l = none) : Fw d H (L2.upd H' l o) := ⟨fun q u n h => by
  rw [upd_ne (ne_of_none h h0)]
  exact f.kp q u n h, fun q h => by
  by_cases z : q = l
  · rw [z, upd_same] at h
    cases h
  · rw [upd_ne z] at h
    exact f.nn q h⟩
def spPairs (C : Addr) : Sp := fun vs H Q _ => ∃ d : Addr, vs = [.ref d] ∧ DeckAt H d ∧ ∀ (l : Addr) (xs : List V) (H' : Hp), DeckAt H' d → Fw d H H' → H' l = some (.lst xs) → PrsO C d H' xs → Q (.ref l) H'
section
variable {P : Program} {w : World} {K : PySem.W.Frag} {mg : Str → Option Value} {base : Heap}
end
def spLaw (K : PySem.W.Frag) : Sp := fun vs H Q _ => ∃ (a : Addr) (ns : List Int), vs = [.ref a] ∧ SqL K H a (ns.map V.int) ∧ ns.length ≤ 63 ∧ ∀ H', Q (.bl true) H'
theorem pr_of {C d : Addr} {H : Hp} {x y : V} (h1 : Od C d 20 300000 H x) (h2 : Od C d 20 300000 H y) : Pr C H x y := by
  obtain ⟨as, _, a2, a3⟩ := od_all (al (p := fun v => Od C d 20 300000 H v) h1 (al h2 al0))
  exact ⟨as, a2, a3 x (by simp), a3 y (by simp)⟩
section
variable {P : Program} {w : World} {K : PySem.W.Frag} {mg : Str → Option Value} {base : Heap}
end
def TOk (v : V) : Prop := ∀ z, v = .str z → Asc z ∧ z.length ≤ 10000
theorem Th.tok {C : Addr} {H : Hp} {n L : Nat} {as : List Addr} {v : V} (h : Th C H n L as v) : TOk v := fun z e => by
  subst e
  cases h with
  | str a l _ _ => exact ⟨a, l⟩
theorem Od.tok {C d : Addr} {N M : Nat} {H : Hp} {v : V} (h : Od C d N M H v) : TOk v := let ⟨_, _, _, t⟩ := h; t.tok
end K
/-! text[::-1] -/
namespace Rp
open PySem PySem.Spec PyProof.Rows L2
def revT (z : Str) : Str := ⟨z.cps.toList.reverse.toArray⟩
theorem revT_len (z : Str) : (revT z).length = z.length := by
  show z.cps.toList.reverse.toArray.size = z.cps.size
  simp
theorem rev_pick (z : Str) : (Builtin.Str.strSliceIndices none none (-1) z.length).filterMap (z.cps[·]?) = z.cps.toList.reverse := by
  unfold Builtin.Str.strSliceIndices
  have h1 : ¬ ((-1 : Int) > 0) := by decide
  simp only [h1, if_false]
  rw [PySem.W.krv_sliceRange, PySem.W.krv_range, List.filterMap_reverse]
  exact congrArg List.reverse (PySem.W.krv_all z.cps)
def tRevS (te : TE) : TE := fun σ H Q => te σ H fun x H1 => ∃ z : Str, x = .str z ∧ z.length ≤ sizeLine ∧ Q (.str (revT z)) H1
theorem pe_revS {X : Cx} {e : Expr} {te : TE} {k : Nat} {p1 p2 p3 pos : Pos} (he : PE X e te) : PE X (.Subscript e (.Slice none none (some (.UnaryOp .USub (.Constant (.int 1) k p1) p2)) p3) pos) (tRevS te) := by
  refine ⟨fun pins s σ H Q I h => ?_⟩
  refine Subscript_ (thn (he.run pins s σ H _ I h) fun v s1 ⟨x, H1, I1, r1, q1⟩ => ?_)
  obtain ⟨z, ex, hz, q⟩ := q1
  subst ex
  obtain ⟨t, rfl⟩ := r1
  have hst : PO X (some (.UnaryOp .USub (.Constant (.int 1) k p1) p2)) (tPart (tUn (rU fun i => .int (-i)) (tC (.int 1)))) := po_some (pe_un un_neg pe_int)
  refine wpAny_Slice (thn (po_none.run pins s1 σ H1 (fun o H2 => o = none ∧ H2 = H1) I1 ⟨rfl, rfl⟩) fun vl s2 ⟨l, H2, I2, pl, el, e2⟩ => ?_)
  subst el e2
  refine thn (po_none.run pins s2 σ H2 (fun o H3 => o = none ∧ H3 = H2) I2 ⟨rfl, rfl⟩) fun vu s3 ⟨u, H3, I3, pu, eu, e3⟩ => ?_
  subst eu e3
  refine thn (hst.run pins s3 σ H3 (fun o H4 => o = some (-1) ∧ H4 = H3) I3 ⟨1, rfl, -1, rfl, rfl, rfl⟩) fun vs s4 ⟨o, H4, I4, ps, eo, e4⟩ => ?_
  subst eo e4
  have I5 : Inv X pins σ H4 { s4 with heap := s4.heap.push { cls := .type "slice", data := .fields #[vl, vu, vs] } } := I4.kept (t' := s4.toks) fun b ob q => Heap.get?_push_of_some _ q
  show wpAny (model X.prog X.w) X.A (subscriptTail e (.Slice none none (some (.UnaryOp .USub (.Constant (.int 1) k p1) p2)) p3) (.str z t) (.ref s4.heap.objs.size)) (EP X pins σ Q) X.xe { s4 with heap := s4.heap.push { cls := .type "slice", data := .fields #[vl, vu, vs] } }
  obtain ⟨l', rfl, el⟩ := IsPart.raw pl
  obtain ⟨u', rfl, eu⟩ := IsPart.raw pu
  obtain ⟨w', rfl, ew⟩ := IsPart.raw ps
  cases l' with
  | some _ => cases el
  | none =>
  cases u' with
  | some _ => cases eu
  | none =>
  cases w' with
  | none => cases ew
  | some w' =>
    obtain ⟨i, tk⟩ := w'
    have ei : i = -1 := by
      first
        | exact (Option.some.inj ew)
        | (injection ew)
        | (simpa using ew)
        | (have := ew.symm; simpa using this)
    subst ei
    refine tail_any (ops := [.str z t, .ref s4.heap.objs.size]) (typeIs_str _ _ _) F.slot_str_getitem.lookup ?_ (by with_unfolding_all rfl)
    refine wpAny_getItem_str_slice (l := none) (u := none) (st := some (-1, tk)) ⟨_, Heap.get?_push_size _ rfl, rfl, rfl⟩ rfl ?_
    show Made.post (if ((-1 : Int) == 1 && (Builtin.Str.strSliceIndices none none (-1) z.length).length == z.length) = true then Made.val (.str z t)
      else Made.str ⟨((Builtin.Str.strSliceIndices none none (-1) z.length).filterMap (z.cps[·]?)).toArray⟩) (EP X pins σ Q) _
    rw [if_neg (by simp), rev_pick]
    exact ⟨by show (revT z).length ≤ sizeLine; rw [revT_len]; exact hz, .str (revT z), H4, I5.tok _, ⟨_, rfl⟩, q⟩
end Rp
/-! == and != by an own __eq__ that may answer either way -/
namespace Rp
open PySem PySem.Spec PyProof.Rows L2
section
variable {prog : Program} {w : World} {A : Around} {E : Value → Shared → Prop} {s : Shared} {K : PySem.W.Frag} {x C L f : Addr} {h₀ : Heap} {m : Str → Option Value} {ox : Obj} {od : Option Obj} {b tb : Value}
open PySem.W in
/-- x != b where the class says only what == is -/
theorem ne_K {Q : Value → Shared → Prop} (hu : A.units + 1 < cLine) (FR : Fr h₀ L s.heap m) (X₀ : K.In h₀) (I : InstAt s.heap x ox C od) (hb : Looks (model prog w) s.heap (typeOf b) tb) (hn : notFirst K C tb = true)
    (hne : findIn K (.ref C) "__ne__" = some (some (.builtin "object.__ne__"))) (hm : mroIn K C (.type "object") = some true)
    (hs : findIn K (.ref C) "__eq__" = some (some (.ref f))) (hf : isFn K (.ref f) = true)
    (h : wpAny (model prog w) A.in1 (call (.ref f) [.ref x, b]) (fun v s' => ∃ r, v = .bool r ∧ Q (.bool (!r)) s') E s) : wpAny (model prog w) A (richCompare .NotEq (.ref x) b) Q E s := by
  have X := X₀.keeps FR.keep
  have hu1 : A.in1.units < cLine := hu
  have sub : Looks (model prog w) s.heap (isInstance (.ref x) (.type "object")) true := I.type.andThen (looks_mroIn X hm)
  have S := PySem.F.cmp_object.ne
  have one : wpAny (model prog w) A (tryCompare (.ref x) "__ne__" b) (fun r s' => ∃ v, r = some v ∧ Q v s') E s := by
    unfold tryCompare
    have body : wpAny (model prog w) A (call (.builtin "object.__ne__") [.ref x, b]) (fun v s' => ∃ r, v = .bool r ∧ Q (.bool r) s') E s := by
      obtain ⟨hp, g, d, t, os⟩ := s
      refine wpAny_call (codeAny_call_builtin S.plain PySem.F.cmpEntry_ne (@check_slot (model prog w) _ _ ⟨hp, g, d, t, os⟩ "object.__ne__" "object" "__ne__" (.ref x) [b] [] _ PySem.F.cmpKind_ne PySem.F.cmpSplit_ne sub (PySem.F.cmpArgs_ne _ _) ?_))
      unfold Builtin.«object.__ne__»
      refine wpAny_bind (wpAny_of_eq (a := ((Value.ref x : Value), [b])) (by first | rfl | (simp only [Builtin.slotArgs]; rfl)) ?_)
      refine wpAny_bind (wpAny_cRoomFor hu1 ?_)
      refine wpAny_bind (ifBound_K X I hs hf (wpAny_mono h (fun v s' hv => ?_) fun _ _ e => e))
      obtain ⟨r, rfl, q⟩ := hv
      exact wpAny_bind (wpAny_truthy_bool (wpAny_pure ⟨!r, rfl, q⟩))
    have bound : wpAny (model prog w) A (callSpecialIfBound? (.ref x) "__ne__" [b]) (fun o s' => ∃ r, o = some (.bool r) ∧ Q (.bool r) s') E s := by
      simp only [callSpecialIfBound?, bindSpecialIfBound?]
      refine wpAny_holding (wpAny_bind (wpAny_bind (wpAny_bind (I.type.here ((looks_findIn X hne).here ?_)))))
      simp only [S.bind]
      refine wpAny_bind (wpAny_askSetting (wpAny_ite ?_))
      have fin : wpAny (model prog w) A (call (.builtin "object.__ne__") ([.ref x] ++ [b]) >>= fun v => pure (some v)) (fun o s' => ∃ r, o = some (.bool r) ∧ Q (.bool r) s') E s :=
        wpAny_bind (wpAny_mono body (fun v s' h' => by
          obtain ⟨r, rfl, q⟩ := h'
          exact wpAny_pure ⟨r, rfl, q⟩) fun _ _ h' => h')
      split
      · exact wpAny_bind (wpAny_pure (wpAny_pure fin))
      · exact wpAny_tryCatch (wpAny_bind (wpAny_pure (wpAny_pure fin)))
    refine wpAny_bind (wpAny_mono bound (fun v s' hv => ?_) fun _ _ e => e)
    obtain ⟨r, rfl, q⟩ := hv
    exact wpAny_pure ⟨_, rfl, q⟩
  unfold richCompare
  simp only [oneThing_ref]
  refine wpAny_holding (wpAny_bind (wpAny_cRoomFor (Nat.lt_of_succ_lt hu) ?_))
  refine wpAny_bind (I.type.here (wpAny_bind (hb.here ?_)))
  split
  · rename_i q
    have e : subIn K tb (.ref C) = some false := by
      rcases Bool.or_eq_true_iff.mp hn with e | e
      · rw [beq_iff_eq.mp e] at q; simp at q
      · exact beq_iff_eq.mp e
    refine wpAny_bind ((looks_subIn X e).here ?_)
    simp only [Bool.false_eq_true, if_false]
    refine wpAny_bind (wpAny_mono one (fun r s' z => ?_) fun _ _ e => e)
    obtain ⟨v, rfl, hq⟩ := z
    exact wpAny_pure hq
  · refine wpAny_bind (wpAny_pure ?_)
    simp only [Bool.false_eq_true, if_false]
    refine wpAny_bind (wpAny_mono one (fun r s' z => ?_) fun _ _ e => e)
    obtain ⟨v, rfl, hq⟩ := z
    exact wpAny_pure hq
end
/-- what a class with an own == and no own != says -/
structure OwnE (K : PySem.W.Frag) (C f : Addr) : Prop where
  eq : PySem.W.findIn K (.ref C) "__eq__" = some (some (.ref f))
  fn : PySem.W.isFn K (.ref f) = true
  ne : PySem.W.findIn K (.ref C) "__ne__" = some (some (.builtin "object.__ne__"))
  mro : PySem.W.mroIn K C (.type "object") = some true
section
variable {X : Cx} {C f : Addr} {fd : FuncData} {ps : List Str} {sp : Sp} {n : Nat} {E : XK} {CX : CXT}
/-- x == y, x != y: x of the class, y of any type -/
def rOwn (K : PySem.W.Frag) (C : Addr) (sp : Sp) (E : XK) (g : Bool → Bool) : R2 := fun x y H Q => ∃ a dx fs tb, x = .ref a ∧ H a = some (.ins C dx fs) ∧ TyX K H y tb ∧ PySem.W.notFirst K C tb = true ∧ sp [x, y] H (fun v H' => ∃ r, v = .bl r ∧ Q (.bl (g r)) H') E
theorem own_callee {A : Around} {pins : List (Addr × Obj)} {σ : L2.St} {H : Hp} {s : Shared} {x y : V} {u v : Value} {Q : Bool → Hp → Prop} (F : FnOk X.prog X.w X.K X.mg X.base CX n f fd ps sp) (hb : Binds X.K fd ps []) (hx : Passes CX X E) (hr : Room n A) (hfr : A.frames = X.A.frames)
    (I : Inv X pins σ H s) (rx : RelV x u) (ry : RelV y v) (hsp : sp [x, y] H (fun v H' => ∃ r, v = .bl r ∧ Q r H') E) :
    wpAny (model X.prog X.w) A (call (.ref f) [u, v]) (fun v s' => ∃ r, v = .bool r ∧ ∃ H', Inv X pins σ H' s' ∧ Q r H') X.xe s := by
  have e0 : Env0 X.prog X.w X.K X.mg X.base A X.stack s H := by
    have e := I.env0
    exact ⟨by rw [hfr]; exact e.frames, e.mod, e.bs, e.bsz, e.funs, e.frf, e.hok, e.bare⟩
  have hl := F.len _ _ _ _ hsp
  have r2 : Vals [x, y] [u, v] := .cons rx (.cons ry .nil)
  refine wpAny_call (codeAny_mono (F.run A X.stack s H ⟨[u, v], []⟩ [u, v] [x, y] _ E hr e0 (by
    have := hb s [u, v] I.kIn (by simpa using hl)
    simpa using this) r2 hsp) fun r s' hq => ?_)
  match r, hq with
  | .error e, hq => exact hx pins σ H s e s' I hq
  | .ok (.ret w), hq =>
    obtain ⟨z, H', I', rz, b, ez, q⟩ := I.after hq
    subst ez
    cases rz
    exact ⟨b, rfl, H', I', q⟩
theorem op_eqOwn (F : FnOk X.prog X.w X.K X.mg X.base CX n f fd ps sp) (O : OwnE X.K C f) (hb : Binds X.K fd ps []) (hx : Passes CX X E) (hr : Room n X.A) : OpR X (compareOp .Eq) (rOwn X.K C sp E id) := by
  intro pins s σ H x y u v Q I rx ry hq
  obtain ⟨a, dx, fs, tb, rfl, ha, ty, nf, hsp⟩ := hq
  show wpAny (model X.prog X.w) X.A (richCompare .Eq u v) (EP X pins σ Q) X.xe s
  obtain ⟨P, Z, p, hv⟩ := kit_of I ry ty
  have hu : u = .ref a := rx
  subst hu
  obtain ⟨mA, J, _⟩ := ins_get I.hok ha
  obtain ⟨od, J, _⟩ := J.look
  obtain ⟨m, hF⟩ := I.fr
  refine PySem.W.cmp_K (op := .Eq) hr.units0 hF I.ok.mod.kin J (Z.ty _ _ I.kIn p) nf O.eq O.fn ?_
  refine wpAny_mono (own_callee (Q := fun r H' => Q (.bl r) H') F hb hx hr rfl I rx ry hsp) (fun w s' k => ?_) fun _ _ k => k
  obtain ⟨r, rfl, H', I', q⟩ := k
  exact ⟨.bl r, H', I', rfl, q⟩
theorem op_neOwn (F : FnOk X.prog X.w X.K X.mg X.base CX n f fd ps sp) (O : OwnE X.K C f) (hb : Binds X.K fd ps []) (hx : Passes CX X E) (hr : Room (n + 1) X.A) : OpR X (compareOp .NotEq) (rOwn X.K C sp E not) := by
  intro pins s σ H x y u v Q I rx ry hq
  obtain ⟨a, dx, fs, tb, rfl, ha, ty, nf, hsp⟩ := hq
  show wpAny (model X.prog X.w) X.A (richCompare .NotEq u v) (EP X pins σ Q) X.xe s
  obtain ⟨P, Z, p, hv⟩ := kit_of I ry ty
  have hu : u = .ref a := rx
  subst hu
  obtain ⟨mA, J, _⟩ := ins_get I.hok ha
  obtain ⟨od, J, _⟩ := J.look
  obtain ⟨m, hF⟩ := I.fr
  refine ne_K (by have := hr.un; omega) hF I.ok.mod.kin J (Z.ty _ _ I.kIn p) nf O.ne O.mro O.eq O.fn ?_
  refine wpAny_mono (own_callee (Q := fun r H' => Q (.bl (!r)) H') F hb hx hr.in1 rfl I rx ry hsp) (fun w s' k => ?_) fun _ _ k => k
  obtain ⟨r, rfl, H', I', q⟩ := k
  exact ⟨r, rfl, .bl !r, H', I', rfl, q⟩
end
end Rp
/-! str of an own instance; a comprehension over a text; repr of a number whatever runs; figures -/
namespace Rp
open PySem PySem.Spec PyProof.Rows L2
section
variable {X : Cx} {C f : Addr} {fd : FuncData} {ps : List Str} {sp : Sp} {n : Nat} {E : XK} {CX : CXT}
/-- a def of one argument, called from within a builtin -/
theorem callee1 {A : Around} {pins : List (Addr × Obj)} {σ : L2.St} {H : Hp} {s : Shared} {x : V} {u : Value} {Q : V → Hp → Prop} (F : FnOk X.prog X.w X.K X.mg X.base CX n f fd ps sp) (hb : Binds X.K fd ps []) (hx : Passes CX X E) (hr : Room n A) (hfr : A.frames = X.A.frames)
    (I : Inv X pins σ H s) (rx : RelV x u) (hsp : sp [x] H Q E) :
    wpAny (model X.prog X.w) A (call (.ref f) [u]) (fun v s' => ∃ y H', Inv X pins σ H' s' ∧ RelV y v ∧ Q y H') X.xe s := by
  have e0 : Env0 X.prog X.w X.K X.mg X.base A X.stack s H := by
    have e := I.env0
    exact ⟨by rw [hfr]; exact e.frames, e.mod, e.bs, e.bsz, e.funs, e.frf, e.hok, e.bare⟩
  have hl := F.len _ _ _ _ hsp
  have r2 : Vals [x] [u] := .cons rx .nil
  refine wpAny_call (codeAny_mono (F.run A X.stack s H ⟨[u], []⟩ [u] [x] _ E hr e0 (by
    have := hb s [u] I.kIn (by simpa using hl)
    simpa using this) r2 hsp) fun r s' hq => ?_)
  match r, hq with
  | .error e, hq => exact hx pins σ H s e s' I hq
  | .ok (.ret w), hq =>
    obtain ⟨z, H', I', rz, q⟩ := I.after hq
    exact ⟨z, H', I', rz, q⟩
/-- str(x), x of a class with its own __str__ -/
def rStrO (C : Addr) (sp : Sp) (E : XK) : List V → Hp → VK → Prop := fun vs H Q => ∃ a dx fs, vs = [.ref a] ∧ H a = some (.ins C dx fs) ∧ sp [.ref a] H (fun v H' => ∃ t, v = .str t ∧ Q (.str t) H') E
theorem cr_strO (F : FnOk X.prog X.w X.K X.mg X.base CX n f fd ps sp) (hs : PySem.W.findIn X.K (.ref C) "__str__" = some (some (.ref f))) (hf : PySem.W.isFn X.K (.ref f) = true) (hb : Binds X.K fd ps []) (hx : Passes CX X E) (hr : Room (n + 2) X.A) :
    CallR X (.type "str") (rStrO C sp E) := by
  intro pins s σ H vs us Q I r h
  obtain ⟨a, dx, fs, rfl, ha, hsp⟩ := h
  obtain ⟨u, rfl, ru⟩ := vals1 r
  have eu : u = .ref a := ru
  subst eu
  obtain ⟨mA, J, _⟩ := ins_get I.hok ha
  obtain ⟨od, J, _⟩ := J.look
  refine PySem.W.kso_call (by have := hr.un; show X.A.units + 1 + 1 < cLine; omega) I.kIn J hs hf (wpAny_mono (callee1 F hb hx hr.in1.in1 rfl I ru hsp) (fun v s' k => ?_) fun _ _ k => k)
  obtain ⟨y, H', I', ry, t, rfl, q⟩ := k
  obtain ⟨tk, rfl⟩ := ry
  exact ⟨.str t, H', I', ⟨tk, rfl⟩, q⟩
/-- repr(n), whatever guards run -/
theorem cr_reprI : CallR X (.builtin "repr") (fun vs H Q => ∃ i : Int, vs = [.int i] ∧ i.natAbs.log2 < 1920 ∧ Q (.str (Str.ofString (toString i))) H) := by
  intro pins s σ H vs us Q I r h
  obtain ⟨i, rfl, hz, q⟩ := h
  obtain ⟨u, rfl, ru⟩ := vals1 r
  obtain ⟨t, rfl⟩ := ru
  exact PySem.P.repr_of_int hz ⟨.str (Str.ofString (toString i)), H, I.tok _, ⟨s.toks, rfl⟩, q⟩
end
/-- a comprehension over a text's signs -/
theorem lc_str {x : Str} {g : TG} {tt : TT} {te : TE} {vs : List Nat} {σ : L2.St} {H1 : Hp} {D : Addr} {Qd : Hp → Prop} (Pv : Nat → Hp → Prop) (h0 : Pv 0 (upd H1 D (.lst [])))
    (hs : ∀ i c H, x.cps[i]? = some c → Pv i H → g (.str ⟨#[c]⟩) (wipe σ vs) H fun σ2 H2 => wipe σ2 vs = wipe σ vs ∧ tt σ2 H2 fun b H3 =>
      if b = true then te σ2 H3 fun y H4 => ∃ acc, H4 D = some (.lst acc) ∧ acc.length < sizeLine ∧ Pv (i + 1) (upd H4 D (.lst (acc ++ [y]))) else Pv (i + 1) H3) (hd : ∀ H, Pv x.cps.size H → Qd H) :
    ∃ W : Nat → Nat → Hp → Prop, (∃ m, W 0 m (upd H1 D (.lst []))) ∧ ∀ i m H, W i m H →
      ((Its x).stop i H ∧ Qd H) ∨ ((Its x).go i H ∧ ∃ Nx : Hp → Prop, (∀ H', Nx H' → ∃ m', m' < m ∧ W (i + 1) m' H') ∧ ∀ y H', (Its x).yld i H y H' → g y (wipe σ vs) H' fun σ2 H2 => wipe σ2 vs = wipe σ vs ∧ tt σ2 H2 fun b H3 =>
        if b = true then te σ2 H3 fun y H4 => ∃ acc, H4 D = some (.lst acc) ∧ acc.length < sizeLine ∧ Nx (upd H4 D (.lst (acc ++ [y]))) else Nx H3) := by
  refine ⟨fun i m H => m = x.cps.size - i ∧ i ≤ x.cps.size ∧ Pv i H, ⟨x.cps.size, by simp, Nat.zero_le _, h0⟩, ?_⟩
  rintro i m H ⟨rfl, hi, p⟩
  by_cases hlt : i < x.cps.size
  · refine .inr ⟨hlt, Pv (i + 1), fun H' p' => ⟨x.cps.size - (i + 1), by omega, rfl, hlt, p'⟩, fun y H' hy => ?_⟩
    obtain ⟨rfl, c, hc, rfl⟩ := hy
    exact hs i c H' hc p
  · have e : i = x.cps.size := by omega
    subst e
    exact .inl ⟨Nat.le_refl _, hd H p⟩

/-! ### figures -/
/-- a number's figures are more than k where the number is 10 ^ k and more -/
theorem numL_small : ∀ (k n : Nat), (TL.numL n).length ≤ k → n < 10 ^ k
  | 0, n, h => absurd (List.length_eq_zero_iff.mp (Nat.le_zero.mp h)) (TL.numL_ne n)
  | k + 1, n, h => by
    by_cases hn : n < 10
    · have : 1 ≤ 10 ^ k := Nat.one_le_pow _ _ (by decide)
      rw [Nat.pow_succ]
      omega
    · rw [TL.numL_step (by omega), List.length_append] at h
      have e : [48 + n % 10].length = 1 := rfl
      have ih := numL_small k (n / 10) (by omega)
      rw [Nat.pow_succ]
      omega
/-- the first figure is no nought but of 0 -/
theorem numL_head (n : Nat) : 0 < n → ∃ c r, TL.numL n = c :: r ∧ c ≠ 48 := by
  induction n using Nat.strongRecOn with
  | _ n ih =>
    intro h0
    by_cases h : n < 10
    · exact ⟨48 + n, [], TL.numL_lt h, by omega⟩
    · obtain ⟨c, r, e, hc⟩ := ih (n / 10) (by omega) (by omega)
      exact ⟨c, r ++ [48 + n % 10], by rw [TL.numL_step (by omega), e]; rfl, hc⟩
end Rp
/-! texts of plain signs -/
namespace K
open PySem PySem.Spec PyProof.Rows L2 Rp
theorem asc_app {x y : Str} (h1 : Asc x) (h2 : Asc y) : Asc (x ++ y) := fun c hc => by
  have e : (x ++ y).cps.toList = x.cps.toList ++ y.cps.toList := TL.tl_append x y
  rw [e] at hc
  exact (List.mem_append.mp hc).elim (h1 c) (h2 c)
theorem asc_cut {z : Str} (h : Asc z) (lo hi : Option Int) : Asc (cutS z lo hi) := fun c hc => by
  unfold cutS at hc
  exact h c (List.mem_of_mem_drop (List.mem_of_mem_take (by simpa using hc)))
theorem asc_rev {z : Str} (h : Asc z) : Asc (revT z) := fun c hc => by
  unfold revT at hc
  exact h c (by simpa using hc)
theorem up_asc : ∀ c, c < 128 → ∀ x ∈ Unicode.upperOf c, x < 128 := by decide +kernel
theorem asc_upper {z : Str} (h : Asc z) : Asc (Txt.upper z) := fun c hc => by
  unfold Txt.upper placed at hc
  have hc : ∃ l, (∃ a, (∃ (i : Nat) (h : i < z.cps.size), (Unicode.upperOf z.cps[i]).toArray = a) ∧ a.toList = l) ∧ c ∈ l := by simpa using hc
  obtain ⟨_, ⟨_, ⟨i, hi, rfl⟩, rfl⟩, hm⟩ := hc
  have hd := h (z.cps[i]) (by simp)
  exact up_asc _ hd c (by simpa using hm)
theorem asc_one {c : Nat} (h : c < 128) : Asc ⟨#[c]⟩ := fun d hd => by
  have : d = c := by simpa using hd
  omega
theorem join_cons (x y : Str) (r : List Str) : Txt.join "" (x :: y :: r) = x ++ "" ++ Txt.join "" (y :: r) := by
  rw [TL.join_eq, TL.join_eq]
  rfl
theorem join_asc : ∀ ys : List Str, (∀ y ∈ ys, Asc y) → Asc (Txt.join "" ys)
  | [], _ => by rw [TL.join_eq]; exact asc_lit _ (by decide +kernel)
  | [x], h => by rw [TL.join_eq]; exact h x List.mem_cons_self
  | x :: y :: r, h => by
    rw [join_cons]
    exact asc_app (asc_app (h x List.mem_cons_self) (asc_lit _ (by decide +kernel))) (join_asc (y :: r) fun u hu => h u (List.mem_cons_of_mem _ hu))
theorem join_len1 : ∀ ys : List Str, (∀ y ∈ ys, y.length = 1) → (Txt.join "" ys).length = ys.length
  | [], _ => by rw [TL.join_eq]; rfl
  | [x], h => by rw [TL.join_eq]; exact h x List.mem_cons_self
  | x :: y :: r, h => by
    have e0 : ("" : Str).length = 0 := by decide +kernel
    rw [join_cons, append_len, append_len, e0, h x List.mem_cons_self, join_len1 (y :: r) fun u hu => h u (List.mem_cons_of_mem _ hu)]
    show 1 + 0 + (y :: r).length = (y :: r).length + 1
    omega
theorem sum_ones : ∀ ys : List Str, (∀ y ∈ ys, y.length = 1) → (ys.map (·.length)).sum = ys.length
  | [], _ => rfl
  | y :: ys, h => by
    rw [List.map_cons, List.sum_cons, sum_ones ys fun u hu => h u (List.mem_cons_of_mem _ hu), h y List.mem_cons_self, List.length_cons]
    omega
theorem od_text {C d : Addr} {N : Nat} {H : Hp} {z : Str} (h : Asc z) (hl : z.length ≤ 10000) : Od C d N 300000 H (.str z) := by
  have h1 := StrLaws.reprText_len z fun c hc => Nat.lt_trans (h c hc) (by decide)
  exact od_str h hl (Nat.le_trans h1 (by omega)) (Nat.le_trans h1 (Nat.le_trans (show _ ≤ 200000 by omega) (by decide)))
theorem tok_ref {p : Addr} : TOk (.ref p) := fun z e => by cases e
theorem tok_int {i : Int} : TOk (.int i) := fun z e => by cases e
theorem tok_bl {i : Bool} : TOk (.bl i) := fun z e => by cases e
theorem tok_non : TOk .non := fun z e => by cases e
theorem tok_str {z : Str} (h : Asc z) (hl : z.length ≤ 10000) : TOk (.str z) := fun y e => by cases e; exact ⟨h, hl⟩
/-! text * number -/
theorem op_mulS {X : Cx} : OpR X (binaryOp .Mult) (fun x y H Q => ∃ (a : Str) (n : Int), x = .str a ∧ y = .int n ∧ MulOk a n ∧ Q (.str (Txt.mul a n)) H) := by
  intro pins s σ H x y v u Q I rx ry h
  obtain ⟨a, n, rfl, rfl, hz, q⟩ := h
  obtain ⟨t, rfl⟩ := rx
  obtain ⟨t', rfl⟩ := ry
  exact SB.mul hz fun t' k => ⟨.str (Txt.mul a n), H, I.tok _, ⟨_, rfl⟩, q⟩
/-! kinds: a text or not -/
def isS : V → Bool
  | .str _ => true
  | _ => false
def Ws (K : PySem.W.Frag) (H : Hp) (v : V) : Prop := ∃ tv, TyX K H v tv ∧ PySem.W.kitOne K tv (.type "str") = some (isS v)
theorem Th.ws {K : PySem.W.Frag} {C : Addr} {H : Hp} {n L : Nat} {as : List Addr} {v : V} (h : Th C H n L as v) (cl : Cls K C) (N : WIns K C) (ks : PySem.W.kitOne K (.ref C) (.type "str") = some false) : Ws K H v := by
  cases h with
  | non q => exact ⟨_, .base .non, kit_ty (by decide +kernel)⟩
  | bl b q => exact ⟨_, .base (.bl b), (kit_ty (by decide +kernel) : PySem.W.kitOne K (.type "bool") (.type "str") = some false)⟩
  | int i q => exact ⟨_, .base (.int _), (kit_ty (by decide +kernel) : PySem.W.kitOne K (.type "int") (.type "str") = some false)⟩
  | str a l q z => exact ⟨_, .base (.str _), (kit_ty (by decide +kernel) : PySem.W.kitOne K (.type "str") (.type "str") = some true)⟩
  | wt a b c d e =>
    obtain ⟨dx, hp⟩ := c
    exact ⟨_, .base (.ins hp cl N.ha N.hn N.htk N.hm), ks⟩
  | tup a b c d e f => exact ⟨_, .base (.tup a), (kit_ty (by decide +kernel) : PySem.W.kitOne K (.type "tuple") (.type "str") = some false)⟩
  | lst a b c d e f => exact ⟨_, .base (.lst a), (kit_ty (by decide +kernel) : PySem.W.kitOne K (.type "list") (.type "str") = some false)⟩
  | dic a b c c' d e f => exact ⟨_, .base (.dK a), (kit_ty (by decide +kernel) : PySem.W.kitOne K (.type "dict") (.type "str") = some false)⟩
/-! a local name that holds one of several defs -/
def tCallV (i : Nat) (R : Addr → Sp → Prop) (t : TA) : TE := fun σ H Q => ∃ f sp, σ[i]? = some (some (.ref f)) ∧ R f sp ∧ t σ H fun vs H1 => sp vs H1 Q (fun _ _ _ => False)
theorem pe_callV {X : Cx} {k i : Nat} {x : Str} {p pos : Pos} {e : Expr} {es : List Expr} {t : TA} {R : Addr → Sp → Prop} (A : ∀ f sp, R f sp → Held X.prog X.w X.K X.mg X.base k f sp) (hr : Room k X.A) (hN : X.N[i]? = some x) (hv : Vis X.env.scope x) (ha : PA X (e :: es) t)
    (hdb : (x == ("__debug__" : Str)) = false := by decide) (hcd : (x == ("__classdict__" : Str)) = false := by decide)
    (he : starEach (e :: es) X.env = (false, eval e X.env) :: starEach es X.env := by rfl) (hpl : (backTo pos (starEach es X.env)).any (·.1) = false := by rfl) : PE X (.Call (.Name x p) (e :: es) [] pos) (tCallV i R t) := by
  refine ⟨fun pins s σ H Q I h => ?_⟩
  obtain ⟨f, sp, hs, hS, ht⟩ := h
  obtain ⟨fd, ps, F, hk, hb⟩ := (A f sp hS).ex
  refine (pe_callL (i := i) (f := f) (sp := sp) (dvs := []) (E := fun _ _ _ => False) F hr hN hv hk hb .nil (fun _ _ _ _ _ _ _ z => z.elim) ha hdb hcd he hpl).run pins s σ H Q I ⟨hs, ?_⟩
  have e0 : (fun (vs : List V) (H1 : Hp) => sp (vs ++ []) H1 Q (fun _ _ _ => False)) = fun vs H1 => sp vs H1 Q (fun _ _ _ => False) := by
    funext vs H1
    rw [List.append_nil]
  show t σ H (fun vs H1 => sp (vs ++ []) H1 Q (fun _ _ _ => False))
  rw [e0]
  exact ht
/-! one thing -/
def Pr1 (C : Addr) (H : Hp) (x : V) : Prop := ∃ as, (∀ b ∈ as, H b ≠ none) ∧ Th C H 20 300000 as x
theorem pr1_of {C d : Addr} {H : Hp} {x : V} (h : Od C d 20 300000 H x) : Pr1 C H x := let ⟨as, _, a2, a3⟩ := h; ⟨as, a2, a3⟩
theorem Pr1.same {C : Addr} {H H' : Hp} {x : V} (h : Pr1 C H x) (e : Same H H') : Pr1 C H' x := by
  obtain ⟨as, a2, a3⟩ := h
  refine ⟨as, fun b hb z => ?_, a3.congr fun b _ o ho => e b o ho⟩
  exact a2 b hb (Fw.same (d := b) e b z)
theorem Od.over {C d l : Addr} {N M : Nat} {H0 H1 : Hp} {v : V} {o : HO} (h : Od C d N M H0 v) (h0 : H0 l = none) (f : Fw d H0 H1) : Od C d N M (upd H1 l o) v := by
  obtain ⟨as, a1, a2, a3⟩ := h
  have nl : ∀ b ∈ as, b ≠ l := fun b hb z => a2 b hb (z ▸ h0)
  refine ⟨as, a1, fun b hb z => ?_, a3.congr fun b hb o ho => ?_⟩
  · rw [upd_ne (nl b hb)] at z
    exact a2 b hb (f.nn b z)
  · rw [upd_ne (nl b hb)]
    exact f.kp b o (fun z => a1 (z ▸ hb)) ho
end K
namespace K
open PySem L2 Rp
section
variable {P : Program} {w : World} {K : PySem.W.Frag} {mg : Str → Option Value} {base : Heap}
end
section
variable {P : Program} {w : World} {K : PySem.W.Frag} {mg : Str → Option Value} {base : Heap}
end
abbrev LETS : Str := "abcdefghijklmnopqrstuvwxyz"
def inL (y : Str) (c : Nat) : Bool := decide (c ∈ y.cps.toList)
def nmV : V → Bool
  | .str z => decide (1 ≤ (z.length : Int)) && (decide ((z.length : Int) ≤ 8) && z.cps.toList.all (inL LETS))
  | _ => false
def grV : V → Bool
  | .int i => decide (1 ≤ i)
  | _ => false
def dyV : V → Bool
  | .int i => decide (0 ≤ i) && decide (i ≤ 1200)
  | _ => false
def spMade : Sp := fun vs H Q _ => ∃ z y : Str, vs = [.str z, .str y] ∧ z.length ≤ 10000 ∧ ∀ H', Same H H' → Q (.bl (z.cps.toList.all (inL y))) H'
/-- a question about a thing -/
def spQ (K : PySem.W.Frag) (q : V → Bool) : Sp := fun vs H Q _ => ∃ v : V, vs = [v] ∧ Wh K H v ∧ Ws K H v ∧ TOk v ∧ ∀ H', Same H H' → Q (.bl (q v)) H'
section
variable {P : Program} {w : World} {K : PySem.W.Frag} {mg : Str → Option Value} {base : Heap}
end
theorem eqvAll_strs : ∀ fs : List Str, PyData.eqvAll (fs.map PyData.str) [] = decide (fs = [])
  | [] => rfl
  | _ :: _ => rfl
theorem canLay_strs : ∀ fs : List Str, (∀ f ∈ fs, Asc f) → PyData.canLayAll0 (fs.map PyData.str) = true
  | [], _ => rfl
  | f :: fs, h => by
    have ih := canLay_strs fs fun g hg => h g (List.mem_cons_of_mem _ hg)
    have h0 : PySem.PyData.strOk f = true := by
      unfold PySem.PyData.strOk
      rw [Array.all_eq_true]
      intro i hi
      exact decide_eq_true (Nat.lt_trans (h f List.mem_cons_self _ (by simp)) (by decide))
    show (PyData.canLay0 (.str f) && PyData.canLayAll0 (fs.map PyData.str)) = true
    rw [ih]
    simpa [PyData.canLay0] using h0
theorem depth_strs : ∀ fs : List Str, PyData.depthAll (fs.map PyData.str) = 0
  | [] => rfl
  | f :: fs => by simp [PyData.depthAll, PyData.depth, depth_strs fs]
theorem shaped_strs {fs : List Str} (h : ∀ f ∈ fs, Asc f) : SeqAt.shaped (.list (fs.map PyData.str)) = true := by
  simp [SeqAt.shaped, PyData.canLay0, PyData.depth, canLay_strs fs h, depth_strs]
theorem dp_strs {K : PySem.W.Frag} {H : Hp} : ∀ fs : List Str, DpAll K H (fs.map V.str) (fs.map PyData.str)
  | [] => .nil
  | f :: fs => .cons (.str f) (dp_strs fs)
def spSign : Sp := fun vs H Q _ => ∃ d : Addr, vs = [.ref d] ∧ DeckAt H d ∧ ∀ (z : Str) (H' : Hp), Asc z → z.length = 1 → DeckAt H' d → Fw d H H' → Q (.str z) H'
def spLName : Sp := fun vs H Q _ => ∃ d : Addr, vs = [.ref d] ∧ DeckAt H d ∧ ∀ (z : Str) (H' : Hp), Asc z → z.length ≤ 8 → DeckAt H' d → Fw d H H' → Q (.str z) H'
def spBent : Sp := fun vs H Q _ => ∃ (d : Addr) (z : Str), vs = [.ref d, .str z] ∧ DeckAt H d ∧ Asc z ∧ z.length ≤ 1000 ∧ ∀ (z' : Str) (H' : Hp), Asc z' → z'.length ≤ 3 * z.length + 3 → DeckAt H' d → Fw d H H' → Q (.str z') H'
section
variable {P : Program} {w : World} {K : PySem.W.Frag} {mg : Str → Option Value} {base : Heap}
end
theorem od_dicK {C d : Addr} {H : Hp} {N M N' M' : Nat} {a : Addr} {kvs : List (Key × V)} (ha : H a = none) (nd : a ≠ d) (h : ∀ kv ∈ kvs, Od C d N M H kv.2 ∧ Od C d N M H (kV kv.1)) (h1 : N + 2 ≤ N') (h2 : kvs.length * (2 * M + 4) + 3 ≤ M') : Od C d N' M' (upd H a (.dK kvs)) (.ref a) := by
  obtain ⟨as, a1, a2, a3⟩ := od_all (xs := kvs.map (·.2) ++ kvs.map (fun kv => kV kv.1)) fun v hv => by
    rcases List.mem_append.mp hv with hv | hv
    · obtain ⟨kv, hk, rfl⟩ := List.mem_map.mp hv
      exact (h kv hk).1
    · obtain ⟨kv, hk, rfl⟩ := List.mem_map.mp hv
      exact (h kv hk).2
  have na : a ∉ as := fun z => a2 a z ha
  have up : ∀ b ∈ as, ∀ o, H b = some o → (upd H a (.dK kvs)) b = some o := fun b hb o ho => by
    rw [upd_ne (fun z : b = a => na (z ▸ hb))]
    exact ho
  refine ⟨a :: as, fun z => (List.mem_cons.mp z).elim (fun z => nd z.symm) a1, fun b hb z => ?_, .dic upd_same na (fun kv hk => (a3 _ (List.mem_append_right _ (List.mem_map.mpr ⟨kv, hk, rfl⟩))).congr up) (fun kv hk => (a3 _ (List.mem_append_left _ (List.mem_map.mpr ⟨kv, hk, rfl⟩))).congr up) h1 h2 fun b hb => hb⟩
  by_cases e : b = a
  · rw [e, upd_same] at z
    cases z
  · rw [upd_ne e] at z
    exact a2 b ((List.mem_cons.mp hb).resolve_left e) z
def spTold (K : PySem.W.Frag) (C : Addr) (R : Addr → Sp → Prop) : Sp := fun vs H Q _ => ∃ (f : Addr) (v : V) (b : Bool) (q : V → Bool), vs = [.ref f, v, .bl b] ∧ R f (spQ K q) ∧ b = q v ∧ Pr1 C H v ∧ TOk v ∧ ∀ H', Same H H' → Q (.bl true) H'
theorem al2 {p : V → Prop} {x : V} {xs : List V} (h : p x) (t : ∀ v ∈ xs, p v) : ∀ v ∈ x :: xs, p v := al h t
section
variable {P : Program} {w : World} {K : PySem.W.Frag} {mg : Str → Option Value} {base : Heap}
end
section
variable {P : Program} {w : World} {K : PySem.W.Frag} {mg : Str → Option Value} {base : Heap}
end
end K
/-! figures of numbers; texts of Weights -/
namespace K
open PySem L2 Rp
theorem low_mul {t b : Int} (hb : 0 < b) : lowT t b * ((Int.gcd t b : Nat) : Int) = t ∧ lowB t b * ((Int.gcd t b : Nat) : Int) = b :=
  ⟨Int.ediv_mul_cancel (Int.gcd_dvd_left t b), Int.ediv_mul_cancel (Int.gcd_dvd_right t b)⟩
theorem low_scale {g x y : Int} (hg : 0 < g) (hy : 0 < y) : lowT (g * x) (g * y) = lowT x y ∧ lowB (g * x) (g * y) = lowB x y := by
  have e : ((Int.gcd (g * x) (g * y) : Nat) : Int) = g * ((Int.gcd x y : Nat) : Int) := by
    rw [Int.gcd_mul_left, Int.natCast_mul]
    congr 1
    omega
  unfold lowT lowB
  rw [e]
  exact ⟨Int.mul_ediv_mul_of_pos _ _ hg, Int.mul_ediv_mul_of_pos _ _ hg⟩
theorem low_low {t b : Int} (hb : 0 < b) : lowT (lowT t b) (lowB t b) = lowT t b ∧ lowB (lowT t b) (lowB t b) = lowB t b := by
  have hg := gcd_pos (t := t) hb
  obtain ⟨e1, e2⟩ := low_mul (t := t) hb
  have hl : 0 < lowB t b := Int.ediv_pos_of_pos_of_dvd hb (Int.le_of_lt hg) (Int.gcd_dvd_right _ _)
  obtain ⟨r1, r2⟩ := low_scale (x := lowT t b) (y := lowB t b) hg hl
  rw [← r1, ← r2, Int.mul_comm _ (lowT t b), Int.mul_comm _ (lowB t b), e1, e2]
  exact ⟨rfl, rfl⟩
theorem low_one (t : Int) : lowT t 1 = t ∧ lowB t 1 = 1 := by
  unfold lowT lowB
  rw [Int.gcd_one_right]
  exact ⟨Int.ediv_one t, rfl⟩
theorem low_gcd {t b : Int} (h : ((Int.gcd t b : Nat) : Int) = 1) : lowT t b = t ∧ lowB t b = b := by
  unfold lowT lowB
  rw [h]
  exact ⟨Int.ediv_one t, Int.ediv_one b⟩
theorem gcd_low {t b : Int} (hb : 0 < b) (h : lowB t b = b) : ((Int.gcd t b : Nat) : Int) = 1 := by
  have hg := gcd_pos (t := t) hb
  obtain ⟨_, e2⟩ := low_mul (t := t) hb
  rw [h] at e2
  have : b * ((Int.gcd t b : Nat) : Int) = b * 1 := by rw [e2]; omega
  exact Int.eq_of_mul_eq_mul_left (by omega) this
theorem emp (x : Str) : Str.empty ++ x = x := TL.ext_tl (by rw [TL.tl_append]; rfl)
/-- a Weight's text -/
def wS (t b : Int) : Str := if b = 1 then nT t else nT t ++ "/" ++ nT b
theorem wS_len {t b : Int} (ht : Sz 1600 t) (hb : Sz 1600 b) : (wS t b).length ≤ 4000 := by
  have h1 := nT_len ht
  have h2 := nT_len hb
  have e3 : ("/" : Str).length = 1 := by decide +kernel
  unfold wS
  split
  · omega
  · simp only [append_len, e3]
    omega
theorem nT_tl {n : Int} (h : 0 ≤ n) : TL.tl (nT n) = TL.numL n.toNat := by
  obtain ⟨k, rfl⟩ := Int.eq_ofNat_of_zero_le h
  exact TL.tl_num k
theorem nT_int {n : Int} (h : 0 ≤ n) (hl : (nT n).length ≤ 640) : intText? (nT n) = some n := by
  obtain ⟨k, rfl⟩ := Int.eq_ofNat_of_zero_le h
  have e : (nT (k : Int)).length = (TL.numL k).length := by
    rw [TL.len_tl]
    exact congrArg List.length (TL.tl_num k)
  exact TL.int_num (by omega)
theorem nT_long {n : Int} {k : Nat} (h : 0 ≤ n) : (nT n).length ≤ k ↔ n < (10 : Int) ^ k ∧ 0 < k := by
  obtain ⟨m, rfl⟩ := Int.eq_ofNat_of_zero_le h
  have e : (nT (m : Int)).length = (TL.numL m).length := by
    rw [TL.len_tl]
    exact congrArg List.length (TL.tl_num m)
  have ep : ((10 : Int) ^ k) = ((10 ^ k : Nat) : Int) := by simp
  rw [e, ep]
  constructor
  · intro h1
    refine ⟨Int.ofNat_lt.mpr (numL_small k m h1), ?_⟩
    rcases Nat.eq_zero_or_pos k with z | z
    · subst z
      exact absurd (List.length_eq_zero_iff.mp (Nat.le_zero.mp h1)) (TL.numL_ne m)
    · exact z
  · rintro ⟨h1, h2⟩
    exact TL.numL_len h2 (Int.ofNat_lt.mp h1)
theorem nT_ne {n : Int} (h : 0 ≤ n) : 1 ≤ (nT n).length := by
  rw [TL.len_tl, nT_tl h]
  exact List.length_pos_iff.mpr (TL.numL_ne _)
theorem nT_zero : nT 0 = "0" := by decide +kernel
theorem nT_one : nT 1 = "1" := by decide +kernel
theorem nT_inj {m n : Int} (hm : 0 ≤ m) (hn : 0 ≤ n) (h : nT m = nT n) : m = n := by
  have e := congrArg TL.tl h
  rw [nT_tl hm, nT_tl hn] at e
  have := TL.numL_inj e
  omega
abbrev TENS : Str := "0123456789"
theorem tens_list : (TENS : Str).cps.toList = [48, 49, 50, 51, 52, 53, 54, 55, 56, 57] := by decide +kernel
theorem tens_mem {c : Nat} (h1 : 48 ≤ c) (h2 : c ≤ 57) : c ∈ (TENS : Str).cps.toList := by
  rw [tens_list]
  simp only [List.mem_cons, List.not_mem_nil, or_false]
  omega
theorem tens_of {c : Nat} (h : c ∈ (TENS : Str).cps.toList) : 48 ≤ c ∧ c ≤ 57 := by
  rw [tens_list] at h
  simp only [List.mem_cons, List.not_mem_nil, or_false] at h
  omega
theorem nT_mem {n : Int} (h : 0 ≤ n) {c : Nat} (hc : c ∈ (nT n).cps.toList) : c ∈ (TENS : Str).cps.toList := by
  have hm : c ∈ TL.tl (nT n) := hc
  rw [nT_tl h] at hm
  obtain ⟨h1, h2⟩ := TL.numL_digits _ c hm
  exact tens_mem h1 h2
theorem nT_stroke {n : Int} (h : 0 ≤ n) : 47 ∉ TL.tl (nT n) := by
  rw [nT_tl h]
  exact TL.numL_free (.inl (by decide))
theorem stroke_tl : TL.tl ("/" : Str) = [47] := by decide +kernel
theorem digits_num : ∀ (m : Nat) (l : List Nat), l.length = m → l ≠ [] → (∀ c ∈ l, 48 ≤ c ∧ c ≤ 57) → (l.head? = some 48 → l = [48]) → ∃ n : Nat, l = TL.numL n
  | 0, l, h, h1, _, _ => absurd (List.length_eq_zero_iff.mp h) h1
  | m + 1, l, h, h1, hd, h0 => by
    obtain ⟨l', c, rfl⟩ : ∃ l' c, l = l' ++ [c] := ⟨l.dropLast, l.getLast h1, (List.dropLast_concat_getLast h1).symm⟩
    have hc := hd c (by simp)
    by_cases e : l' = []
    · subst e
      refine ⟨c - 48, ?_⟩
      rw [TL.numL_lt (by omega)]
      have : 48 + (c - 48) = c := by omega
      rw [this]
      rfl
    · have hh : l'.head? ≠ some 48 := fun z => by
        have z2 : (l' ++ [c]).head? = some 48 := by
          rw [List.head?_append, z]
          rfl
        have z3 := congrArg List.length (h0 z2)
        rw [List.length_append] at z3
        have z4 : l'.length = 0 := by
          have : [c].length = 1 := rfl
          have : [48].length = 1 := rfl
          omega
        exact e (List.length_eq_zero_iff.mp z4)
      obtain ⟨k, hk⟩ := digits_num m l' (by simpa using h) e (fun x hx => hd x (by simp [hx])) (fun z => absurd z hh)
      have kp : 0 < k := by
        rcases Nat.eq_zero_or_pos k with z | z
        · subst z
          rw [hk, TL.numL_lt (by decide)] at hh
          exact absurd rfl hh
        · exact z
      refine ⟨10 * k + (c - 48), ?_⟩
      rw [TL.numL_step (by omega), show (10 * k + (c - 48)) / 10 = k by omega, show (10 * k + (c - 48)) % 10 = c - 48 by omega, ← hk, show 48 + (c - 48) = c by omega]
/-- the text of a whole number of at most twelve figures -/
def NumX (z : Str) : Prop := ∃ n : Int, 0 ≤ n ∧ n < 1000000000000 ∧ z = nT n
theorem nT_head {n : Int} (h : 0 ≤ n) (h0 : (nT n).cps.toList.head? = some 48) : nT n = "0" := by
  have hz : n = 0 := by
    refine Classical.byContradiction fun hne => ?_
    obtain ⟨c, r, e, hc⟩ := numL_head n.toNat (by omega)
    have e2 : (TL.tl (nT n)).head? = some 48 := h0
    rw [nT_tl h, e] at e2
    exact hc (Option.some.inj e2)
  rw [hz, nT_zero]
theorem e12 : (10 : Int) ^ 12 = 1000000000000 := by decide
theorem NumX.len {z : Str} (h : NumX z) : 1 ≤ z.length ∧ z.length ≤ 12 := by
  obtain ⟨n, h0, h1, rfl⟩ := h
  exact ⟨nT_ne h0, (nT_long h0).mpr ⟨by rw [e12]; exact h1, by decide⟩⟩
theorem NumX.head {z : Str} (h : NumX z) (h0 : z.cps.toList.head? = some 48) : z = "0" := by
  obtain ⟨n, n0, _, rfl⟩ := h
  exact nT_head n0 h0
theorem NumX.all {z : Str} (h : NumX z) : z.cps.toList.all (inL TENS) = true := by
  obtain ⟨n, n0, _, rfl⟩ := h
  exact List.all_eq_true.mpr fun c hc => decide_eq_true (nT_mem n0 hc)
theorem num_of {z : Str} (h1 : 1 ≤ z.length) (h2 : z.length ≤ 12) (h3 : z.cps.toList.head? = some 48 → z = "0") (h : z.cps.toList.all (inL TENS) = true) : NumX z := by
  have hd : ∀ c ∈ z.cps.toList, 48 ≤ c ∧ c ≤ 57 := fun c hc => tens_of (of_decide_eq_true (List.all_eq_true.mp h c hc))
  have ne : z.cps.toList ≠ [] := fun e => by
    rw [TL.len_tl] at h1
    have z0 : TL.tl z = [] := e
    rw [z0] at h1
    exact absurd h1 (by decide)
  obtain ⟨n, hn⟩ := digits_num _ _ rfl ne hd (fun e => by rw [h3 e]; decide +kernel)
  have n0 : (0 : Int) ≤ (n : Int) := by omega
  have ez : z = nT (n : Int) := TL.ext_tl (by rw [nT_tl n0]; exact hn)
  refine ⟨n, n0, ?_, ez⟩
  rw [ez] at h2
  have := ((nT_long (n := (n : Int)) (k := 12) n0).mp h2).1
  rw [e12] at this
  exact this
theorem num_iff {z : Str} (h1 : 1 ≤ z.length) (h2 : z.length ≤ 12) (h3 : z.cps.toList.head? = some 48 → z = "0") : z.cps.toList.all (inL TENS) = true ↔ NumX z := ⟨num_of h1 h2 h3, NumX.all⟩
theorem num_nT {n : Int} (h0 : 0 ≤ n) (h1 : n < 1000000000000) : NumX (nT n) := ⟨n, h0, h1, rfl⟩
/-- the first sign -/
theorem first_of {z : Str} (h : 1 ≤ z.length) : ∃ c r, z.cps.toList = c :: r := by
  cases e : z.cps.toList with
  | nil =>
    rw [TL.len_tl] at h
    have : TL.tl z = [] := e
    rw [this] at h
    exact absurd h (by decide)
  | cons c r => exact ⟨c, r, rfl⟩
theorem zero_sign {c : Nat} (h : (⟨#[c]⟩ : Str) = "0") : c = 48 := by
  have := congrArg TL.tl h
  have e0 : TL.tl ("0" : Str) = [48] := by decide +kernel
  rw [e0] at this
  exact (List.cons.inj (show [c] = [48] from this)).1
theorem sign_zero : (⟨#[48]⟩ : Str) = "0" := by decide +kernel

/-! ### a text that is a Weight's -/
structure IsW (z : Str) (t b : Int) : Prop where
  t0 : 0 ≤ t
  b0 : 0 < b
  t1 : t < 1000000000000
  b1 : b < 1000000000000
  l1 : lowT t b = t
  l2 : lowB t b = b
  e : z = wS t b
/-- top and bottom's texts, whatever Weight it is -/
def Pc (z x y : Str) : Prop := ∀ t b, IsW z t b → x = nT t ∧ y = nT b
theorem stroke_cases (z : Str) : 47 ∉ TL.tl z ∨ ∃ a c : Str, z = a ++ "/" ++ c ∧ 47 ∉ TL.tl a := by
  by_cases h : 47 ∈ TL.tl z
  · obtain ⟨s, t, e, hs⟩ := List.eq_append_cons_of_mem h
    refine .inr ⟨⟨s.toArray⟩, ⟨t.toArray⟩, TL.ext_tl ?_, hs⟩
    rw [TL.tl_append, TL.tl_append, stroke_tl]
    show TL.tl z = _
    rw [e]
    show s ++ 47 :: t = s ++ [47] ++ t
    simp
  · exact .inl h
theorem pc_one {z : Str} (h : 47 ∉ TL.tl z) : Pc z z "1" := fun t b w => by
  by_cases hb : b = 1
  · have e := w.e
    unfold wS at e
    rw [if_pos hb] at e
    exact ⟨e, by rw [hb, nT_one]⟩
  · have e := w.e
    unfold wS at e
    rw [if_neg hb] at e
    refine absurd ?_ h
    rw [e, TL.tl_append, TL.tl_append, stroke_tl]
    simp
theorem pc_two {z a c : Str} (e : z = a ++ "/" ++ c) (h : 47 ∉ TL.tl a) : Pc z a c ∧ ∀ t b, IsW z t b → b ≠ 1 := by
  have main : ∀ t b, IsW z t b → b ≠ 1 ∧ a = nT t ∧ c = nT b := fun t b w => by
    have e1 := w.e
    by_cases hb : b = 1
    · unfold wS at e1
      rw [if_pos hb] at e1
      refine absurd ?_ (nT_stroke w.t0)
      rw [← e1, e, TL.tl_append, TL.tl_append, stroke_tl]
      simp
    · unfold wS at e1
      rw [if_neg hb, e] at e1
      have p1 := TL.partition_app (b := c) stroke_tl h
      have p2 := TL.partition_app (b := nT b) stroke_tl (nT_stroke w.t0)
      rw [e1, p2] at p1
      have q := Prod.mk.inj p1
      exact ⟨hb, q.1.symm, (Prod.mk.inj q.2).2.symm⟩
  exact ⟨fun t b w => (main t b w).2, fun t b w => (main t b w).1⟩
theorem IsW.nums {z x y : Str} {t b : Int} (w : IsW z t b) (p : Pc z x y) : NumX x ∧ NumX y ∧ y ≠ "0" := by
  obtain ⟨rfl, rfl⟩ := p t b w
  refine ⟨num_nT w.t0 w.t1, num_nT (Int.le_of_lt w.b0) w.b1, fun e => ?_⟩
  rw [← nT_zero] at e
  have := nT_inj (Int.le_of_lt w.b0) (by decide) e
  have := w.b0
  omega
theorem low_le {t b : Int} (h0 : 0 ≤ t) (hb : 0 < b) : lowT t b ≤ t ∧ lowB t b ≤ b := ⟨Int.ediv_le_self _ h0, Int.ediv_le_self _ (Int.le_of_lt hb)⟩
theorem low_pos {t b : Int} (h0 : 0 ≤ t) (hb : 0 < b) : 0 ≤ lowT t b ∧ 0 < lowB t b := by
  have hg := gcd_pos (t := t) hb
  exact ⟨Int.ediv_nonneg h0 (Int.le_of_lt hg), Int.ediv_pos_of_pos_of_dvd hb (Int.le_of_lt hg) (Int.gcd_dvd_right _ _)⟩
theorem isw_of {z : Str} {n m : Int} (n0 : 0 ≤ n) (n1 : n < 1000000000000) (m0 : 0 < m) (m1 : m < 1000000000000) (e : wS (lowT n m) (lowB n m) = z) : IsW z (lowT n m) (lowB n m) := by
  obtain ⟨a1, a2⟩ := low_le n0 m0
  obtain ⟨b1, b2⟩ := low_pos n0 m0
  obtain ⟨c1, c2⟩ := low_low (t := n) m0
  exact ⟨b1, b2, by omega, by omega, c1, c2, e.symm⟩
theorem not_isw {z : Str} {n m : Int} (n0 : 0 ≤ n) (m0 : 0 < m) (p : Pc z (nT n) (nT m)) (ne : ¬ wS (lowT n m) (lowB n m) = z) (t b : Int) : ¬ IsW z t b := fun w => by
  obtain ⟨e1, e2⟩ := p t b w
  have e1 := nT_inj n0 w.t0 e1
  have e2 := nT_inj (Int.le_of_lt m0) (Int.le_of_lt w.b0) e2
  subst e1 e2
  rw [w.l1, w.l2] at ne
  exact ne w.e.symm
/-! ### split -/
theorem kind_stroke (z : Str) : ¬ Builtin.Str.strKind z < Builtin.Str.strKind "/" := TL.kind_ok (by decide +kernel)
theorem split_tl (z : Str) : (Txt.split z "/").map TL.tl = TL.spl [47] 0 [] (TL.tl z) := by
  have := TL.split_spl z "/" (by rw [stroke_tl]; simp) (kind_stroke z)
  rw [stroke_tl] at this
  exact this
theorem split_one {z : Str} (h : 47 ∉ TL.tl z) : Txt.split z "/" = [z] := TL.map_tl_inj (by
  rw [split_tl, TL.spl_last1 h]
  rfl)
theorem split_cons {a c : Str} (h : 47 ∉ TL.tl a) : (Txt.split (a ++ "/" ++ c) "/").map TL.tl = TL.tl a :: (Txt.split c "/").map TL.tl := by
  rw [split_tl, split_tl, TL.tl_append, TL.tl_append, stroke_tl]
  have e : TL.tl a ++ [47] ++ TL.tl c = TL.tl a ++ ([47] ++ TL.tl c) := by simp
  rw [e]
  exact TL.spl_part1 h
theorem split_ne (z : Str) : 1 ≤ (Txt.split z "/").length := by
  rcases stroke_cases z with h | ⟨a, c, rfl, h⟩
  · rw [split_one h]
    exact Nat.le_refl 1
  · have := congrArg List.length (split_cons (c := c) h)
    rw [List.length_map, List.length_cons] at this
    omega
theorem split_cases (z : Str) : (Txt.split z "/" = [z] ∧ 47 ∉ TL.tl z) ∨ (∃ a c : Str, z = a ++ "/" ++ c ∧ 47 ∉ TL.tl a ∧ Txt.split z "/" = [a, c]) ∨ (2 < (Txt.split z "/").length ∧ ∀ t b, ¬ IsW z t b) := by
  rcases stroke_cases z with h | ⟨a, c, rfl, h⟩
  · exact .inl ⟨split_one h, h⟩
  · refine .inr ?_
    have e := split_cons (c := c) h
    rcases stroke_cases c with h2 | ⟨a2, c2, rfl, h2⟩
    · rw [split_one h2] at e
      exact .inl ⟨a, c, rfl, h, TL.map_tl_inj e⟩
    · refine .inr ⟨?_, fun t b w => ?_⟩
      · have e1 := congrArg List.length e
        have e2 := congrArg List.length (split_cons (c := c2) h2)
        have e3 := split_ne c2
        simp only [List.length_map, List.length_cons] at e1 e2
        omega
      · have e3 := ((pc_two rfl h).1 t b w).2
        refine absurd ?_ (nT_stroke (Int.le_of_lt w.b0))
        rw [← e3, TL.tl_append, TL.tl_append, stroke_tl]
        simp
/-! ### a text, so many times -/
theorem fold_list (a : Array Nat) : ∀ (n : Nat) (acc : Array Nat), ((List.replicate n a).foldl (· ++ ·) acc).toList = acc.toList ++ (List.replicate n a.toList).flatten
  | 0, acc => by simp
  | n + 1, acc => by
    rw [List.replicate_succ, List.foldl_cons, fold_list a n (acc ++ a), List.replicate_succ]
    simp
theorem mul_mem {x : Str} {n : Int} {c : Nat} (h : c ∈ (Txt.mul x n).cps.toList) : c ∈ x.cps.toList := by
  unfold Txt.mul at h
  split at h
  · simp [Str.empty] at h
  · split at h
    · exact h
    · have h2 : c ∈ ((List.replicate n.toNat x.cps).foldl (· ++ ·) #[]).toList := h
      rw [fold_list] at h2
      simp only [List.nil_append, List.mem_flatten, List.mem_replicate] at h2
      obtain ⟨l, ⟨_, rfl⟩, hc⟩ := h2
      exact hc
theorem mul_asc {x : Str} {n : Int} (h : Asc x) : Asc (Txt.mul x n) := fun c hc => h c (mul_mem hc)
theorem mul_len (x : Str) (n : Nat) : (Txt.mul x n).length ≤ n * x.length := by
  unfold Txt.mul
  split
  · exact Nat.zero_le _
  · split
    · rename_i h1 h2
      rcases (Bool.or_eq_true _ _).mp h2 with h | h
      · have : (n : Int) = 1 := by simpa using h
        have : n = 1 := by omega
        subst this
        omega
      · have : x.length = 0 := by simpa using h
        omega
    · have e : (⟨(List.replicate (n : Int).toNat x.cps).foldl (· ++ ·) #[]⟩ : Str).length = ((List.replicate (n : Int).toNat x.cps).foldl (· ++ ·) #[]).toList.length := TL.len_tl _
      rw [e, fold_list]
      have e2 : x.length = x.cps.toList.length := TL.len_tl x
      simp [List.length_flatten, e2]
end K
/-! sorted(xs, key=f), f a def that lets nothing out and writes to nothing that is tracked -/
namespace Rp
open PySem PySem.Spec PyProof.Rows L2
theorem perm_back {α β : Type} {g : α → β} {l r : List β} (h : l.Perm r) : ∀ m : List α, r = m.map g → ∃ m' : List α, m'.Perm m ∧ l = m'.map g := by
  induction h with
  | nil =>
    intro m e
    cases m with
    | nil => exact ⟨[], .nil, rfl⟩
    | cons y m => cases e
  | cons x _ ih =>
    intro m e
    cases m with
    | nil => cases e
    | cons y m =>
      have e2 := List.cons.inj e
      obtain ⟨m', p, e3⟩ := ih m e2.2
      exact ⟨y :: m', p.cons y, by rw [List.map_cons, ← e3, e2.1]⟩
  | swap x y l =>
    intro m e
    match m, e with
    | [], e => cases e
    | [_], e => cases e
    | a :: b :: m, e =>
      have e2 := List.cons.inj e
      have e3 := List.cons.inj e2.2
      exact ⟨b :: a :: m, .swap _ _ _, by rw [List.map_cons, List.map_cons, e2.1, e3.1, e3.2]⟩
  | trans _ _ ih1 ih2 =>
    intro m e
    obtain ⟨m2, p2, e2⟩ := ih2 m e
    obtain ⟨m1, p1, e1⟩ := ih1 m2 e2
    exact ⟨m1, p1.trans p2, e1⟩
theorem vals_pairs : ∀ T : List (V × Value), (∀ p ∈ T, RelV p.1 p.2) → Vals (T.map Prod.fst) (T.map Prod.snd)
  | [], _ => .nil
  | p :: T, h => .cons (h p List.mem_cons_self) (vals_pairs T fun q hq => h q (List.mem_cons_of_mem _ hq))
theorem zip_rel : ∀ {xs : List V} {us : List Value}, Vals xs us → ∀ p ∈ xs.zip us, RelV p.1 p.2
  | _, _, .nil, p, h => by cases h
  | _, _, .cons r t, p, h => by
    rw [List.zip_cons_cons] at h
    rcases List.mem_cons.mp h with rfl | h
    · exact r
    · exact zip_rel t p h
theorem zip_fst : ∀ {xs : List V} {us : List Value}, Vals xs us → (xs.zip us).map Prod.fst = xs
  | _, _, .nil => rfl
  | _, _, .cons r t => by
    rw [List.zip_cons_cons, List.map_cons, zip_fst t]
/-- the sorted values are those of a list that is in order by its keys -/
theorem out_sorted {k : V → Int} {xs : List V} {us out : List Value} (rv : Vals xs us) (h : KskOut false (xs.map k) us out) : ∃ ys, ys.Perm xs ∧ ys.Pairwise (fun x y => k x ≤ k y) ∧ Vals ys out := by
  obtain ⟨ps, hp, rfl, ho⟩ := h
  have e : (xs.map k).zip us = (xs.zip us).map fun p => (k p.1, p.2) := by
    rw [List.zip_map_left]
    exact List.map_congr_left fun ⟨x, y⟩ _ => rfl
  obtain ⟨T, pT, rfl⟩ := perm_back hp (xs.zip us) e
  refine ⟨T.map Prod.fst, ?_, ?_, ?_⟩
  · have := pT.map Prod.fst
    rw [zip_fst rv] at this
    exact this
  · rw [List.pairwise_map] at ho ⊢
    exact ho.imp fun h => by simpa using h
  · have := vals_pairs T fun p hp => zip_rel rv p (pT.mem_iff.mp hp)
    rw [List.map_map]
    exact this
section
variable {X : Cx} {f : Addr} {fd : FuncData} {ps : List Str} {sp : Sp} {n : Nat}
theorem key_call {A : Around} {pins : List (Addr × Obj)} {σ : L2.St} {H : Hp} {s : Shared} {x : V} {u : Value} {Q : VK} {E : Value → Shared → Prop} (F : FnOk X.prog X.w X.K X.mg X.base CX0 n f fd ps sp) (hb : Binds X.K fd ps []) (hr : Room n A) (hfr : A.frames = X.A.frames)
    (I : Inv X pins σ H s) (rx : RelV x u) (hsp : sp [x] H Q E0) :
    wpAny (model X.prog X.w) A (call (.ref f) [u]) (fun v s' => ∃ y H', Inv X pins σ H' s' ∧ RelV y v ∧ Q y H') E s := by
  have e0 : Env0 X.prog X.w X.K X.mg X.base A X.stack s H := by
    have e := I.env0
    exact ⟨by rw [hfr]; exact e.frames, e.mod, e.bs, e.bsz, e.funs, e.frf, e.hok, e.bare⟩
  have hl := F.len _ _ _ _ hsp
  have r2 : Vals [x] [u] := .cons rx .nil
  refine wpAny_call (codeAny_mono (F.run A X.stack s H ⟨[u], []⟩ [u] [x] _ E0 hr e0 (by
    have := hb s [u] I.kIn (by simpa using hl)
    simpa using this) r2 hsp) fun r s' hq => ?_)
  match r, hq with
  | .error e, hq => exact hq.elim
  | .ok (.ret w), hq =>
    obtain ⟨z, H', I', rz, q⟩ := I.after hq
    exact ⟨z, H', I', rz, q⟩
variable {A : Around} {E : Value → Shared → Prop} {P : PySem.Fin → Shared → Prop} {pins : List (Addr × Obj)} {σ : L2.St} {a kS : Addr} {e1 : Nat} {xs : List V} {its : List Value} {k : V → Int}
/-- the end: keys and items are there -/
theorem sort_fin {st : SortSt} {H : Hp} {s : Shared} {keys : Array Value} (I : Inv X pins σ H s) (ha : H a = some (.frz (seqObj "list" #[] e1) (.lst []))) (hS : H kS = some (.lst (xs.map fun x => .int (k x)))) (hn : ∀ o u, X.H_0 a ≠ some (.frz o u)) (rv : Vals xs its)
    (hz : its.length ≤ sizeLine) (hk : IntsAre keys.toList (xs.map k)) (hp : (arrOf st).Perm (keys.zip its.toArray)) (hs : SortedTo (arrOf st) (arrOf st).size) (hf : failedOf st = none)
    (h : ∀ ys s' H', ys.Perm xs → ys.Pairwise (fun x y => k x ≤ k y) → (∀ b o, b ≠ a → b ≠ kS → H b = some o → H' b = some o) → H' a = some (.lst ys) → Inv X pins σ H' s' → P (.done (.ret .none)) s') :
    wpAny (model X.prog X.w) A (ksk_tail a false e1 (.ref kS) st) P E s := by
  have nka : kS ≠ a := fun z => by rw [z, ha] at hS; cases hS
  obtain ⟨zS, itS, nS, rS, lS, hoS⟩ := I.lstM hS
  have I1 := I.lset (ys := []) (its' := []) (f := fun _ => #[]) (t' := s.toks) hS hoS rfl .nil (Nat.zero_le _)
  have ha1 : (upd H kS (.lst [])) a = some (.frz (seqObj "list" #[] e1) (.lst [])) := by rw [upd_ne (Ne.symm nka)]; exact ha
  have ho1 := (I1.hok a _ ha1).1
  have I2 := I1.unlock ha1 hn
  obtain ⟨ys, py, oy, vy⟩ := out_sorted rv (ksk_out (b := false) hk hp hs)
  have ly : ys.length ≤ sizeLine := by rw [py.length_eq, rv.length]; exact hz
  have I3 := I2.lset (ys := ys) (its := []) (its' := ((arrOf st).map (·.2)).toList) (f := fun _ => (arrOf st).map (·.2)) (t' := s.toks) upd_same ho1 (by exact (Array.toArray_toList ..).symm) (by simpa using vy) ly
  unfold ksk_tail
  dsimp only
  refine wpAny_bind (listUpdate_at hoS rfl (wpAny_bind (wpAny_letGo (wpAny_bind (seqEpoch_at ho1 rfl (wpAny_bind (listUpdate_at ho1 rfl ?_ (Nat.zero_le _) ?_)))))) ?_ (Nat.zero_le _))
  · rw [hf]
    simp only [Bool.false_eq_true, if_false, bne_self_eq_false]
    refine wpAny_pure (h ys _ _ py oy (fun b o n1 n2 e => ?_) upd_same I3)
    rw [upd_ne n1, upd_ne n1, upd_ne n2]
    exact e
  · have := vy.length
    simp only [Bool.false_eq_true, if_false] at this ⊢
    rw [← Array.length_toList]
    omega
  · rw [List.size_toArray, ← lS]
    exact zS
theorem sort_keyed {H : Hp} {s : Shared} {keys : Array Value} (I : Inv X pins σ H s) (ha : H a = some (.frz (seqObj "list" #[] e1) (.lst []))) (hS : H kS = some (.lst (xs.map fun x => .int (k x)))) (hn : ∀ o u, X.H_0 a ≠ some (.frz o u)) (rv : Vals xs its)
    (h64 : its.length < 64) (hk : IntsAre keys.toList (xs.map k))
    (h : ∀ ys s' H', ys.Perm xs → ys.Pairwise (fun x y => k x ≤ k y) → (∀ b o, b ≠ a → b ≠ kS → H b = some o → H' b = some o) → H' a = some (.lst ys) → Inv X pins σ H' s' → P (.done (.ret .none)) s') :
    wpAny (model X.prog X.w) A (ksk_end a false its.toArray e1 (.ref kS) keys) P E s := by
  have hz : its.length ≤ sizeLine := Nat.le_trans (Nat.le_of_lt h64) (by decide)
  have lk : keys.size = its.length := by
    have q := hk.length
    rw [Array.length_toList, List.length_map, rv.length] at q
    omega
  have lz : (keys.zip its.toArray).size = its.length := by rw [Array.size_zip, lk, List.size_toArray, Nat.min_self]
  unfold ksk_end
  dsimp only
  simp only [Bool.false_eq_true, if_false]
  by_cases h2 : its.toArray.size < 2
  · rw [if_pos h2, if_pos h2]
    refine wpAny_bind (wpAny_pure ?_)
    rw [StateT.run_pure]
    refine wpAny_bind (wpAny_pure ?_)
    dsimp only
    refine sort_fin (st := SortSt.mk' general' (keys.zip its.toArray) #[] 7 none) I ha hS hn rv hz hk (Array.Perm.refl _) ?_ rfl h
    intro i j hij hj
    have hj : j < (keys.zip its.toArray).size := hj
    rw [lz] at hj
    rw [List.size_toArray] at h2
    have : i = j := by omega
    rw [this]
    exact Int.le_refl _
  · rw [if_neg h2, if_neg h2]
    rw [List.size_toArray] at h2
    rw [ksk_kind hk (by omega)]
    refine wpAny_bind (wpAny_pure (wpAny_bind (wpAny_mono (wpS_sortRuns (a₀ := keys.zip its.toArray) (st := SortSt.mk' oneType' (keys.zip its.toArray) #[] 7 none)
      (Q := fun _ st' => (arrOf st').Perm (keys.zip its.toArray) ∧ failedOf st' = none ∧ SortedTo (arrOf st') (keys.zip its.toArray).size) (ksk_intKeys hk) ⟨Array.Perm.refl _, rfl, rfl, rfl⟩ (by omega) (by omega) fun st' a1 a2 a3 => ⟨a1, a2, a3⟩) ?_ fun _ _ e => e)))
    rintro ⟨⟨⟩, st'⟩ s' ⟨rfl, hp, hf, hs⟩
    dsimp only
    exact sort_fin I ha hS hn rv hz hk hp (by rw [hp.size_eq]; exact hs) hf h
theorem ints_keys {xs : List V} {k : V → Int} : ∀ {us : List Value}, Vals (xs.map fun x => V.int (k x)) us → IntsAre us (xs.map k) := fun {us} h => by
  have e : (xs.map fun x => V.int (k x)) = (xs.map k).map V.int := by rw [List.map_map]; rfl
  rw [e] at h
  exact h.ints
/-- the keys are asked, one by one -/
theorem sort_asks {H : Hp} {s : Shared} (F : FnOk X.prog X.w X.K X.mg X.base CX0 n f fd ps sp) (hb : Binds X.K fd ps []) (hr : Room n A) (hfr : A.frames = X.A.frames) (I : Inv X pins σ H s) (ha : H a = some (.frz (seqObj "list" #[] e1) (.lst []))) (hS : H kS = some (.lst []))
    (hn : ∀ o u, X.H_0 a ≠ some (.frz o u)) (rv : Vals xs its) (h64 : its.length < 64)
    (ask : ∀ x ∈ xs, ∀ H', (∀ b o, b ≠ a → b ≠ kS → H b = some o → H' b = some o) → sp [x] H' (fun y H2 => y = .int (k x) ∧ ∀ b o, H' b = some o → H2 b = some o) E0)
    (h : ∀ ys s' H', ys.Perm xs → ys.Pairwise (fun x y => k x ≤ k y) → (∀ b o, b ≠ a → b ≠ kS → H b = some o → H' b = some o) → H' a = some (.lst ys) → Inv X pins σ H' s' → P (.done (.ret .none)) s') :
    wpAny (model X.prog X.w) A (ksk_rest a (.ref f) false its.toArray e1 (.ref kS)) P E s := by
  have nka : kS ≠ a := fun z => by rw [z, ha] at hS; cases hS
  unfold ksk_rest
  refine wpAny_bind (wpAny_rule ?_)
  rw [List.forIn_toArray]
  refine wpAny_bind (ksk_fold (fun i s' => ∃ H', Inv X pins σ H' s' ∧ (∀ b o, b ≠ kS → H b = some o → H' b = some o) ∧ H' kS = some (.lst ((xs.take i).map fun x => .int (k x)))) its 0 s ⟨H, I, fun _ _ _ e => e, by simpa using hS⟩ ?one ?all)
  case one =>
    rintro j v s' hv ⟨H', I', sm, hS'⟩
    simp only [Nat.zero_add] at hS' ⊢
    have hj : j < xs.length := by rw [rv.length]; exact (List.getElem?_eq_some_iff.mp hv).1
    have hx : xs[j]? = some xs[j] := List.getElem?_eq_getElem hj
    generalize xs[j] = x at hx
    obtain ⟨u, hu, rx⟩ := rv.get hx
    have eu : u = v := Option.some.inj (hu.symm.trans hv)
    subst eu
    refine wpAny_bind (wpAny_attempt (wpAny_mono (key_call (E := fun _ _ => False) F hb hr hfr I' rx (ask x (List.mem_of_getElem? hx) H' fun b o _ n2 e => sm b o n2 e)) (fun w s2 he => ?_) fun _ _ z => z.elim))
    obtain ⟨y, H2, I2, ry, rfl, sm2⟩ := he
    have hS2 := sm2 _ _ hS'
    obtain ⟨zS, itS, nS, rS, lS, hoS⟩ := I2.lstM hS2
    have ek : xs.take (j + 1) = xs.take j ++ [x] := by rw [List.take_add_one, hx]; rfl
    have l1 : (((xs.take j).map fun x => V.int (k x)) ++ [V.int (k x)]).length ≤ 64 := by
      rw [List.length_append, List.length_map, List.length_take]
      have := rv.length
      show _ + 1 ≤ 64
      omega
    have I3 := I2.lset (ys := ((xs.take j).map fun x => V.int (k x)) ++ [V.int (k x)]) (its' := itS ++ [w]) (f := (·.push w)) (t' := s2.toks) hS2 hoS (by simp) (rS.append (.cons ry .nil)) (Nat.le_trans l1 (by decide))
    dsimp only
    have l2 : itS.length ≤ 63 := by
      rw [← lS, List.length_map, List.length_take]
      have := rv.length
      omega
    refine wpAny_bind (listUpdate_at hoS rfl (wpAny_pure ⟨rfl, _, I3, fun b o hne e => ?_, ?_⟩) (by rw [List.size_toArray]; exact Nat.le_trans l2 (by decide)) (by rw [Array.size_push, List.size_toArray]; exact Nat.le_trans (Nat.succ_le_succ l2) (by decide)))
    · rw [upd_ne hne]
      exact sm2 _ _ (sm b o hne e)
    · rw [upd_same, ek, List.map_append]
      rfl
  case all =>
    rintro s' ⟨H', I', sm, hS'⟩
    have et : xs.take (0 + its.length) = xs := List.take_of_length_le (by rw [rv.length]; omega)
    rw [et] at hS'
    obtain ⟨zS, itS, nS, rS, lS, hoS⟩ := I'.lstM hS'
    refine wpAny_bind (listItems_at hoS rfl ?_)
    exact sort_keyed I' (sm _ _ (Ne.symm nka) ha) hS' hn rv h64 (by simpa using ints_keys rS) fun ys s2 H2 p o q e I2 => h ys s2 H2 p o (fun b u n1 n2 z => q b u n1 n2 (sm b u n2 z)) e I2
/-- list.sort(key=f) of a list that is tracked -/
theorem sort_whole {H : Hp} {s : Shared} (F : FnOk X.prog X.w X.K X.mg X.base CX0 n f fd ps sp) (hb : Binds X.K fd ps []) (hr : Room n A) (hfr : A.frames = X.A.frames) (I : Inv X pins σ H s) (ha : H a = some (.lst xs)) (h64 : xs.length < 64)
    (ask : ∀ x ∈ xs, ∀ H', (∀ b o, b ≠ a → H b = some o → H' b = some o) → sp [x] H' (fun y H2 => y = .int (k x) ∧ ∀ b o, H' b = some o → H2 b = some o) E0)
    (h : ∀ ys s' H', ys.Perm xs → ys.Pairwise (fun x y => k x ≤ k y) → (∀ b o, b ≠ a → H b = some o → H' b = some o) → H' a = some (.lst ys) → Inv X pins σ H' s' → P (.done (.ret .none)) s') :
    wpAny (model X.prog X.w) A (ksk_tree a (.ref f) false) P E s := by
  obtain ⟨hz, its, n0, rv, ln, ho⟩ := I.lstM ha
  have hzi : its.length ≤ sizeLine := by rw [← ln]; exact hz
  have I1 := I.lset (ys := []) (its' := []) (f := fun _ => (#[] : Array Value)) (t' := s.toks) ha ho rfl .nil (Nat.zero_le _)
  obtain ⟨_, it1, e1, r1, _, ho1⟩ := I1.lstM upd_same
  have e0 : it1 = [] := by cases r1; rfl
  subst e0
  have hn := I.nofrz ha trivial
  obtain ⟨od, I2⟩ := I1.lock upd_same trivial
  rw [upd_upd] at I2
  have eo : od = seqObj "list" #[] e1 := by
    have q := (I2.hok a _ upd_same).1
    rw [ho1] at q
    exact (Option.some.inj q).symm
  subst eo
  unfold ksk_tree
  refine wpAny_bind (listItems_at ho rfl (wpAny_bind (listUpdate_at ho rfl (wpAny_bind (seqEpoch_at ho1 rfl (wpAny_bind (wpAny_newTuple (wpAny_bind (wpAny_newList (wpAny_holding ?_) (Nat.zero_le _))) (by simpa using hzi))))) (by rw [List.size_toArray]; exact hzi) (Nat.zero_le _))))
  have I3 := I2.kept (t' := s.toks) (h' := (s.heap.update a (Obj.mapSeq fun _ => (#[] : Array Value))).push { cls := .type "tuple", data := .seq its.toArray.toList.toArray }) fun _ _ q => Heap.get?_push_of_some _ q
  have I4 := I3.lnew (ys := []) (its := []) (t' := s.toks) .nil (Nat.zero_le _)
  have fr := I3.fresh
  have old : ∀ b o, b ≠ a → H b = some o → b ≠ ((s.heap.update a (Obj.mapSeq fun _ => (#[] : Array Value))).push { cls := .type "tuple", data := .seq its.toArray.toList.toArray }).objs.size := fun b o nb e z => by
    rw [← z, upd_ne nb] at fr
    rw [e] at fr
    cases fr
  have na : a ≠ ((s.heap.update a (Obj.mapSeq fun _ => (#[] : Array Value))).push { cls := .type "tuple", data := .seq its.toArray.toList.toArray }).objs.size := fun z => by
    rw [← z, upd_same] at fr
    cases fr
  have keep : ∀ b o, b ≠ a → H b = some o → (upd (upd H a (.frz (seqObj "list" #[] e1) (.lst []))) ((s.heap.update a (Obj.mapSeq fun _ => (#[] : Array Value))).push { cls := .type "tuple", data := .seq its.toArray.toList.toArray }).objs.size (.lst [])) b = some o := fun b o nb e => by
    rw [upd_ne (old b o nb e), upd_ne nb]
    exact e
  refine sort_asks (k := k) F hb hr hfr I4 (by rw [upd_ne na]; exact upd_same) upd_same hn rv (by rw [← ln]; exact h64) (fun x hx H' sm => ask x hx H' fun b o nb e => sm b o nb (old b o nb e) (keep b o nb e)) fun ys s' H' p o sm e I' => h ys s' H' p o (fun b u nb z => sm b u nb (old b u nb z) (keep b u nb z)) e I'
def rSortF (K : PySem.W.Frag) (f : Addr) (sp : Sp) : List V → List V → Hp → VK → Prop := fun vs zs H Q => ∃ (a : Addr) (xs : List V) (k : V → Int), vs = [.ref a] ∧ zs = [.ref f] ∧ SqL K H a xs ∧ xs.length < 64 ∧
  (∀ x ∈ xs, ∀ H', (∀ b o, H b = some o → H' b = some o) → sp [x] H' (fun y H2 => y = .int (k x) ∧ ∀ b o, H' b = some o → H2 b = some o) E0) ∧
  ∀ (ys : List V) (p : Addr) (H' : Hp), ys.Perm xs → ys.Pairwise (fun x y => k x ≤ k y) → (∀ b o, H b = some o → H' b = some o) → H p = none → H' p = some (.lst ys) → Q (.ref p) H'
theorem cr_sortedF (F : FnOk X.prog X.w X.K X.mg X.base CX0 n f fd ps sp) (hb : Binds X.K fd ps []) (hr : Room (n + 2) X.A) : CallRK X (.builtin "sorted") [Str.ofString "key"] (rSortF X.K f sp) := by
  intro pins s σ H vs zs us ws Q I r rz h
  obtain ⟨a, xs, k, rfl, rfl, hs, h64, ask, q⟩ := h
  obtain rfl := Vals.ref1 r
  obtain ⟨w1, rfl, e1⟩ := vals1 rz
  obtain rfl : w1 = Value.ref f := e1
  obtain ⟨its, rv, hl, hz⟩ := I.list hs
  have hzi : its.length ≤ sizeLine := by rw [← rv.length]; exact hz
  refine call_function_entry_kw kind_sorted plain_sorted entry_sorted (PyProof.Rows.ksk_s1 _ _) ?_
  unfold Builtin.«sorted»
  refine wpAny_bind (m := checkCount "sorted" 1 1 _) (wpAny_pure (wpAny_bind (collect_list hl.isList (wpAny_bind (wpAny_newList ?_ hzi)) hzi)))
  have I1 : Inv X pins σ H { s with heap := (s.heap.push (seqObj "list" #[] 0)).update s.heap.objs.size (Obj.mapSeq (· ++ its.toArray)), toks := s.toks } := I.kept fun b o e => by
    rw [Heap.get?_update_ne _ _ _ _ (Nat.ne_of_lt (Heap.lt_size e))]
    exact Heap.get?_push_of_some _ e
  have I2 := I1.lnew (t' := s.toks) rv hz
  have fr := I1.fresh
  have ho := (I2.lstM upd_same).2
  generalize hg : (s.heap.push (seqObj "list" #[] 0)).update s.heap.objs.size (Obj.mapSeq (· ++ its.toArray)) = g at *
  obtain ⟨it2, n2, _, _, ho⟩ := ho
  refine wpAny_bind (wpAny_holding (wpAny_call_entry_kw slot_list_sort ⟨_, ho, rfl⟩ entry_list_sort ?_ (PyProof.Rows.ksk_l1 _ _)))
  show wpAny (model X.prog X.w) X.A.in1.in1 (Builtin.«list.sort» ⟨[.ref g.objs.size], [(Str.ofString "key", .ref f)]⟩) _ X.xe _
  rw [ksk_t1]
  have keep : ∀ b o, H b = some o → b ≠ g.objs.size ∧ (upd H g.objs.size (.lst xs)) b = some o := fun b o e => by
    have nb : b ≠ g.objs.size := fun z => by rw [← z, e] at fr; cases fr
    exact ⟨nb, by rw [upd_ne nb]; exact e⟩
  refine sort_whole (k := k) F hb hr.in1.in1 rfl I2 upd_same h64 (fun x hx H' sm => ask x hx H' fun b o e => sm b o (keep b o e).1 (keep b o e).2) fun ys s' H' p o sm e I' => ⟨_, rfl, ?_⟩
  exact wpAny_pure ⟨_, rfl, .ref g.objs.size, H', I', rfl, q ys _ H' p o (fun b u z => sm b u (keep b u z).1 (keep b u z).2) fr e⟩
end
end Rp
/-! marks: figures of sixteen -/
namespace K
open PySem L2 Rp
abbrev SIX : Str := "0123456789abcdef"
theorem six_list : (SIX : Str).cps.toList = [48, 49, 50, 51, 52, 53, 54, 55, 56, 57, 97, 98, 99, 100, 101, 102] := by decide +kernel
def numH (l : List Nat) : Bool := decide (1 ≤ l.length) && (decide (l.length ≤ 6) && (!(decide (l.head? = some 48) && !decide (l = [48])) && l.all (inL SIX)))
def mkL : List Nat → Bool
  | [] => false
  | c :: r => decide (c = 99) && numH r
def mkV : V → Bool
  | .str z => mkL z.cps.toList
  | _ => false
def keyV : V → Int
  | .str z => ((Hx.hexNum (z.cps.toList.drop 1) : Nat) : Int)
  | _ => 0
theorem six_hex {c : Nat} (h : inL SIX c = true) : Hx.IsHex c := by
  have h := of_decide_eq_true h
  rw [six_list] at h
  simp only [List.mem_cons, List.not_mem_nil, or_false] at h
  unfold Hx.IsHex
  omega
theorem numH_hex {l : List Nat} (h : numH l = true) : (∀ c ∈ l, inL SIX c = true) ∧ 1 ≤ l.length ∧ l.length ≤ 6 := by
  unfold numH at h
  simp only [Bool.and_eq_true, decide_eq_true_eq, List.all_eq_true] at h
  exact ⟨h.2.2.2, h.1, h.2.1⟩
theorem cut_one (z : Str) : (cutS z (some 1) none).cps.toList = z.cps.toList.drop 1 := by
  unfold cutS
  have e : z.length = z.cps.toList.length := TL.len_tl z
  have h1 : HT.sIx z.length z.length none = z.length := by first | rfl | simp [HT.sIx]
  have h2 : HT.sIx z.length 0 (some 1) = min 1 z.length := by
    first
      | rfl
      | (unfold HT.sIx; simp; omega)
  rw [h1, h2, e]
  show (z.cps.toList.drop _).take _ = _
  rcases Nat.eq_zero_or_pos z.cps.toList.length with h | h
  · rw [List.length_eq_zero_iff.mp h]
    rfl
  · rw [show min 1 z.cps.toList.length = 1 by omega]
    exact List.take_of_length_le (by rw [List.length_drop]; exact Nat.le_refl _)
theorem starts_c (z : Str) : Txt.startswith z "c" = decide (z.cps.toList.head? = some 99) := by
  have ec : ("c" : Str) = ⟨#[99]⟩ := by decide +kernel
  have h := PySem.StrLaws.subAt_one z 99 0
  rw [ec]
  show (decide (0 + (⟨#[99]⟩ : Str).length ≤ z.length) && _) = _
  rw [Bool.eq_iff_iff, Bool.and_eq_true, decide_eq_true_iff, decide_eq_true_iff, List.head?_eq_getElem?]
  exact h
theorem index_six : ∀ c ∈ [48, 49, 50, 51, 52, 53, 54, 55, 56, 57, 97, 98, 99, 100, 101, 102], Txt.index0 SIX ⟨#[c]⟩ = some (Hx.hv c) := by decide +kernel
theorem for_str {x : Str} {g : TG} {tb : TS} {D : Ends} {σ : L2.St} {H : Hp} (Pv : Nat → L2.St → Hp → Prop) (h0 : Pv 0 σ H)
    (hs : ∀ i c σ H, x.cps[i]? = some c → Pv i σ H → g (.str ⟨#[c]⟩) σ H fun σ2 H2 => tb { D with nx := Pv (i + 1), ct := Pv (i + 1), bk := D.nx } σ2 H2) (hd : ∀ σ H, Pv x.cps.size σ H → D.nx σ H) :
    ∃ W : Nat → Nat → L2.St → Hp → Prop, (∃ m, W 0 m σ H) ∧ ∀ i m σ H, W i m σ H →
      ((Its x).stop i H ∧ D.nx σ H) ∨ ((Its x).go i H ∧ ∃ N : L2.St → Hp → Prop, (∀ σ' H', N σ' H' → ∃ m', m' < m ∧ W (i + 1) m' σ' H') ∧ ∀ y H', (Its x).yld i H y H' → g y σ H' fun σ2 H2 => tb { D with nx := N, ct := N, bk := D.nx } σ2 H2) := by
  refine ⟨fun i m σ H => m = x.cps.size - i ∧ i ≤ x.cps.size ∧ Pv i σ H, ⟨x.cps.size, by simp, Nat.zero_le _, h0⟩, ?_⟩
  rintro i m σ H ⟨rfl, hi, p⟩
  by_cases hlt : i < x.cps.size
  · refine .inr ⟨hlt, Pv (i + 1), fun σ' H' p' => ⟨x.cps.size - (i + 1), by omega, rfl, hlt, p'⟩, fun y H' hy => ?_⟩
    obtain ⟨rfl, c, hc, rfl⟩ := hy
    exact hs i c σ H' hc p
  · have e : i = x.cps.size := by omega
    subst e
    exact .inl ⟨Nat.le_refl _, hd σ H p⟩
theorem hex_take {l : List Nat} {i c : Nat} (h : l[i]? = some c) : Hx.hexNum (l.take (i + 1)) = Hx.hexNum (l.take i) * 16 + Hx.hv c := by
  rw [List.take_add_one, h]
  unfold Hx.hexNum
  rw [List.foldl_append]
  rfl
end K
namespace K
open PySem L2 Rp
/-- the tables of code objects that lambdas are made by, each with its lambda's name -/
class TabT where
  T : List (Addr × Str)
  cn : Bool
variable [TabT]
theorem tabs_wr {H : Hp} {p : Addr} {o0 o : HO} (hp : H p = some o0) (n1 : ∀ ps, o0 ≠ .tbl ps) (n2 : ∀ φ, o0 ≠ .ext φ) (t : LamX.Tabs TabT.T H) : LamX.Tabs TabT.T (upd H p o) := fun q hq => by
  obtain ⟨ps, h1, h2, h3⟩ := t q hq
  refine ⟨ps, by rw [upd_ne (fun z => by rw [z, hp] at h1; exact n1 ps (Option.some.inj h1))]; exact h1, h2, fun pos cv hc => ?_⟩
  obtain ⟨c, e1, e2⟩ := h3 pos cv hc
  exact ⟨c, e1, by rw [upd_ne (fun z => by rw [z, hp] at e2; exact n2 _ (Option.some.inj e2))]; exact e2⟩
theorem tabs_new {H : Hp} {p : Addr} {o : HO} (hp : H p = none) (t : LamX.Tabs TabT.T H) : LamX.Tabs TabT.T (upd H p o) := t.ext fun b u e => by
  rw [upd_ne (ne_of_none e hp)]
  exact e
/-! Data read off the heap: what never changes (D), decks, lists of one's own. -/
inductive D where
  | non | bl (b : Bool) | int (i : Int) | str (s : Str) | raw (v : V)
  | tup (xs : List D) | lst (xs : List D) | ins (C : Addr) (fs : List (Str × D)) | dic (kvs : List (Key × D)) | deck | scr (ns : List Int)
/-- none: never changes; some true: a deck; some false: an own list -/
structure Mk_ where
  m : Addr → Option Bool
  n : Nat
instance : CoeFun Mk_ fun _ => Addr → Option Bool := ⟨Mk_.m⟩
/-- more draws than this are never asked -/
abbrev LIM : Nat := 2 ^ 200
/-- a deck drawn from n times at the most; where cn is set, its second number counts them -/
def DeckN (n : Nat) (H : Hp) (d : Addr) : Prop := ∃ a b c : Int, H d = some (.lst [.int a, .int b, .int c]) ∧ (TabT.cn = true → b.natAbs ≤ n)
structure Wd (H : Hp) (M : Mk_) : Prop where
  dk : ∀ a, M a = some true → DeckN M.n H a
  ow : ∀ a, M a = some false → ∃ xs, H a = some (.lst xs)
  tb : LamX.Tabs TabT.T H
theorem Wd.has {H : Hp} {M : Mk_} (w : Wd H M) {a : Addr} {b : Bool} (h : M a = some b) : ∃ xs, H a = some (.lst xs) := by
  cases b with
  | true => obtain ⟨x, y, z, e, _⟩ := w.dk a h; exact ⟨_, e⟩
  | false => exact w.ow a h
theorem Wd.no {H : Hp} {M : Mk_} (w : Wd H M) {a : Addr} (h : H a = none) : M a = none := by
  cases e : M a with
  | none => rfl
  | some b => obtain ⟨xs, q⟩ := w.has e; rw [h] at q; cases q
theorem Wd.imm {H : Hp} {M : Mk_} (w : Wd H M) {a : Addr} {o : HO} (h : H a = some o) (no : ∀ xs, o ≠ .lst xs) : M a = none := by
  cases e : M a with
  | none => rfl
  | some b => obtain ⟨xs, q⟩ := w.has e; rw [h] at q; cases q; exact absurd rfl (no xs)
structure XT (H : Hp) (M : Mk_) (H' : Hp) (M' : Mk_) : Prop where
  k0 : ∀ b o, H b = some o → M b = none → (∀ ps, o ≠ .tbl ps) → H' b = some o ∧ M' b = none
  kt : ∀ b ps, H b = some (.tbl ps) → M b = none → (∃ qs, H' b = some (.tbl qs)) ∧ M' b = none
  k1 : ∀ b, M b = some true → M' b = some true
structure XB (H : Hp) (M : Mk_) (H' : Hp) (M' : Mk_) : Prop extends XT H M H' M' where
  k2 : ∀ b, M b = some false → M' b = some false ∧ H' b = H b
theorem XT.refl {H : Hp} {M : Mk_} : XT H M H M := ⟨fun _ _ h m _ => ⟨h, m⟩, fun _ _ h m => ⟨⟨_, h⟩, m⟩, fun _ h => h⟩
theorem XB.refl {H : Hp} {M : Mk_} : XB H M H M := ⟨.refl, fun _ h => ⟨h, rfl⟩⟩
theorem XT.trans {H H1 H2 : Hp} {M M1 M2 : Mk_} (a : XT H M H1 M1) (b : XT H1 M1 H2 M2) : XT H M H2 M2 :=
  ⟨fun q o h m n => let z := a.k0 q o h m n; b.k0 q o z.1 z.2 n, fun q ps h m => by
    obtain ⟨⟨qs, h1⟩, m1⟩ := a.kt q ps h m
    exact b.kt q qs h1 m1, fun q h => b.k1 q (a.k1 q h)⟩
theorem XB.trans {H H1 H2 : Hp} {M M1 M2 : Mk_} (a : XB H M H1 M1) (b : XB H1 M1 H2 M2) : XB H M H2 M2 :=
  ⟨a.toXT.trans b.toXT, fun q h => let z := a.k2 q h; let y := b.k2 q z.1; ⟨y.1, y.2.trans z.2⟩⟩
/-- what was there is there -/
theorem XB.free {H H' : Hp} {M M' : Mk_} (x : XB H M H' M') (w : Wd H M) (w' : Wd H' M') {a : Addr} (h : H' a = none) : H a = none := by
  cases e : H a with
  | none => rfl
  | some o =>
    cases m : M a with
    | none =>
      by_cases n : ∃ ps, o = .tbl ps
      · obtain ⟨ps, rfl⟩ := n
        obtain ⟨⟨qs, z⟩, _⟩ := x.kt a ps e m
        rw [z] at h; cases h
      · rw [(x.k0 a o e m fun ps z => n ⟨ps, z⟩).1] at h; cases h
    | some b =>
      cases b with
      | true => obtain ⟨xs, q⟩ := w'.has (x.k1 a m); rw [h] at q; cases q
      | false => rw [(x.k2 a m).2, e] at h; cases h
mutual
def Dn (K : PySem.W.Frag) (H : Hp) (M : Mk_) : D → V → Prop
  | .non, v => v = .non
  | .bl b, v => v = .bl b
  | .int i, v => v = .int i
  | .str s, v => v = .str s
  | .raw w, v => v = w
  | .deck, v => ∃ a, v = .ref a ∧ M a = some true
  | .tup ds, v => ∃ a vs, v = .ref a ∧ H a = some (.tup vs) ∧ DnL K H M ds vs
  | .lst ds, v => ∃ a vs, v = .ref a ∧ H a = some (.lst vs) ∧ M a = none ∧ DnL K H M ds vs
  | .scr ns, v => ∃ a, v = .ref a ∧ ((Rd H a (.lst (ns.map V.int)) ∧ M a = none) ∨ ∀ H2, SqL K H2 a (ns.map V.int))
  | .ins C fs, v => ∃ a dx ws, v = .ref a ∧ H a = some (.ins C dx ws) ∧ DnF K H M fs ws
  | .dic kvs, v => ∃ a ws, v = .ref a ∧ H a = some (.dK ws) ∧ DnK K H M kvs ws
def DnL (K : PySem.W.Frag) (H : Hp) (M : Mk_) : List D → List V → Prop
  | [], vs => vs = []
  | d :: ds, vs => ∃ w ws, vs = w :: ws ∧ Dn K H M d w ∧ DnL K H M ds ws
def DnF (K : PySem.W.Frag) (H : Hp) (M : Mk_) : List (Str × D) → List (Str × V) → Prop
  | [], vs => vs = []
  | (x, d) :: ds, vs => ∃ w ws, vs = (x, w) :: ws ∧ Dn K H M d w ∧ DnF K H M ds ws
def DnK (K : PySem.W.Frag) (H : Hp) (M : Mk_) : List (Key × D) → List (Key × V) → Prop
  | [], vs => vs = []
  | (x, d) :: ds, vs => ∃ w ws, vs = (x, w) :: ws ∧ Dn K H M d w ∧ DnK K H M ds ws
end
theorem rd_xt {H H' : Hp} {M M' : Mk_} (x : XT H M H' M') {a : Addr} {o : HO} (nt : ∀ ps, o ≠ .tbl ps) (m : M a = none) (h : Rd H a o) : Rd H' a o ∧ M' a = none := by
  rcases h with h | ⟨u, h⟩
  · have z := x.k0 _ _ h m nt
    exact ⟨.inl z.1, z.2⟩
  · have z := x.k0 _ _ h m (fun _ z => nomatch z)
    exact ⟨.inr ⟨u, z.1⟩, z.2⟩
theorem sqT_xt {K : PySem.W.Frag} {H H' : Hp} {M M' : Mk_} (w : Wd H M) (x : XT H M H' M') {a : Addr} {xs : List V} (h : SqT K H a xs) : SqT K H' a xs := by
  rcases h with (h | ⟨u, h⟩) | h
  · exact .inl (.inl (x.k0 _ _ h (w.imm h fun _ z => nomatch z) (fun _ z => nomatch z)).1)
  · exact .inl (.inr ⟨u, (x.k0 _ _ h (w.imm h fun _ z => nomatch z) (fun _ z => nomatch z)).1⟩)
  · exact .inr h
mutual
theorem Dn.xt {K : PySem.W.Frag} {H H' : Hp} {M M' : Mk_} (w : Wd H M) (x : XT H M H' M') : ∀ (d : D) (v : V), Dn K H M d v → Dn K H' M' d v
  | .non, _, h => h
  | .bl _, _, h => h
  | .int _, _, h => h
  | .str _, _, h => h
  | .raw _, _, h => h
  | .deck, _, ⟨a, e, h⟩ => ⟨a, e, x.k1 a h⟩
  | .tup ds, _, ⟨a, vs, e, h, k⟩ => ⟨a, vs, e, (x.k0 _ _ h (w.imm h fun _ z => nomatch z) (fun _ z => nomatch z)).1, DnL.xt w x ds vs k⟩
  | .lst ds, _, ⟨a, vs, e, h, m, k⟩ => ⟨a, vs, e, (x.k0 _ _ h m (fun _ z => nomatch z)).1, (x.k0 _ _ h m (fun _ z => nomatch z)).2, DnL.xt w x ds vs k⟩
  | .scr ns, _, ⟨a, e, h⟩ => ⟨a, e, h.imp (fun z => rd_xt x (fun _ z => nomatch z) z.2 z.1) id⟩
  | .ins C fs, _, ⟨a, dx, ws, e, h, k⟩ => ⟨a, dx, ws, e, (x.k0 _ _ h (w.imm h fun _ z => nomatch z) (fun _ z => nomatch z)).1, DnF.xt w x fs ws k⟩
  | .dic fs, _, ⟨a, ws, e, h, k⟩ => ⟨a, ws, e, (x.k0 _ _ h (w.imm h fun _ z => nomatch z) (fun _ z => nomatch z)).1, DnK.xt w x fs ws k⟩
theorem DnL.xt {K : PySem.W.Frag} {H H' : Hp} {M M' : Mk_} (w : Wd H M) (x : XT H M H' M') : ∀ (ds : List D) (vs : List V), DnL K H M ds vs → DnL K H' M' ds vs
  | [], _, h => h
  | d :: ds, _, ⟨u, us, e, h, k⟩ => ⟨u, us, e, Dn.xt w x d u h, DnL.xt w x ds us k⟩
theorem DnF.xt {K : PySem.W.Frag} {H H' : Hp} {M M' : Mk_} (w : Wd H M) (x : XT H M H' M') : ∀ (ds : List (Str × D)) (vs : List (Str × V)), DnF K H M ds vs → DnF K H' M' ds vs
  | [], _, h => h
  | (y, d) :: ds, _, ⟨u, us, e, h, k⟩ => ⟨u, us, e, Dn.xt w x d u h, DnF.xt w x ds us k⟩
theorem DnK.xt {K : PySem.W.Frag} {H H' : Hp} {M M' : Mk_} (w : Wd H M) (x : XT H M H' M') : ∀ (ds : List (Key × D)) (vs : List (Key × V)), DnK K H M ds vs → DnK K H' M' ds vs
  | [], _, h => h
  | (y, d) :: ds, _, ⟨u, us, e, h, k⟩ => ⟨u, us, e, Dn.xt w x d u h, DnK.xt w x ds us k⟩
end
theorem DnL.len {K : PySem.W.Frag} {H : Hp} {M : Mk_} : ∀ {ds : List D} {vs : List V}, DnL K H M ds vs → vs.length = ds.length
  | [], _, h => by have h : _ = [] := h; rw [h]; rfl
  | d :: ds, _, ⟨u, us, e, _, k⟩ => by rw [e, List.length_cons, List.length_cons, DnL.len k]
theorem DnL.nth' {K : PySem.W.Frag} {H : Hp} {M : Mk_} {d : D} : ∀ (ds : List D) (vs : List V) (i : Nat), DnL K H M ds vs → ds[i]? = some d → ∃ v, vs[i]? = some v ∧ Dn K H M d v
  | [], _, _, _, e => by cases e
  | c :: ds, _, 0, ⟨u, us, e, h, k⟩, z => by cases z; subst e; exact ⟨u, rfl, h⟩
  | c :: ds, _, i + 1, ⟨u, us, e, h, k⟩, z => by
    subst e
    exact DnL.nth' ds us i k z
theorem DnL.nth {K : PySem.W.Frag} {H : Hp} {M : Mk_} {d : D} {ds : List D} {vs : List V} {i : Nat} (h : DnL K H M ds vs) (e : ds[i]? = some d) : ∃ v, vs[i]? = some v ∧ Dn K H M d v := DnL.nth' ds vs i h e
theorem DnL.app {K : PySem.W.Frag} {H : Hp} {M : Mk_} : ∀ {ds es : List D} {vs us : List V}, DnL K H M ds vs → DnL K H M es us → DnL K H M (ds ++ es) (vs ++ us)
  | [], _, _, _, h, k => by have h : _ = [] := h; rw [h]; exact k
  | d :: ds, _, _, _, ⟨u, us, e, h, k⟩, k2 => ⟨u, us ++ _, by rw [e]; rfl, h, DnL.app k k2⟩
theorem DnL.drop {K : PySem.W.Frag} {H : Hp} {M : Mk_} : ∀ (n : Nat) {ds : List D} {vs : List V}, DnL K H M ds vs → DnL K H M (ds.drop n) (vs.drop n)
  | 0, _, _, h => h
  | n + 1, [], _, h => by have h : _ = [] := h; rw [h]; exact rfl
  | n + 1, d :: ds, _, ⟨u, us, e, h, k⟩ => by subst e; exact DnL.drop n k
theorem DnL.take {K : PySem.W.Frag} {H : Hp} {M : Mk_} : ∀ (n : Nat) {ds : List D} {vs : List V}, DnL K H M ds vs → DnL K H M (ds.take n) (vs.take n)
  | 0, _, _, h => rfl
  | n + 1, [], _, h => by have h : _ = [] := h; rw [h]; exact rfl
  | n + 1, d :: ds, _, ⟨u, us, e, h, k⟩ => by subst e; exact ⟨u, _, rfl, h, DnL.take n k⟩
theorem DnL.rev {K : PySem.W.Frag} {H : Hp} {M : Mk_} : ∀ {ds : List D} {vs : List V}, DnL K H M ds vs → DnL K H M ds.reverse vs.reverse
  | [], _, h => by have h : _ = [] := h; rw [h]; exact rfl
  | d :: ds, _, ⟨u, us, e, h, k⟩ => by
    subst e
    rw [List.reverse_cons, List.reverse_cons]
    exact DnL.app (DnL.rev k) ⟨u, [], rfl, h, rfl⟩
theorem DnL.set {K : PySem.W.Frag} {H : Hp} {M : Mk_} {d : D} {v : V} (h : Dn K H M d v) : ∀ {ds : List D} {vs : List V} (i : Nat), DnL K H M ds vs → DnL K H M (ds.set i d) (vs.set i v)
  | [], _, _, h => by have h : _ = [] := h; rw [h]; exact rfl
  | e :: ds, _, 0, ⟨u, us, q, _, k⟩ => by subst q; exact ⟨v, us, rfl, h, k⟩
  | e :: ds, _, i + 1, ⟨u, us, q, g, k⟩ => by subst q; exact ⟨u, _, rfl, g, DnL.set h i k⟩
theorem DnF.look {K : PySem.W.Frag} {H : Hp} {M : Mk_} {x : Str} {d : D} : ∀ {fs : List (Str × D)} {ws : List (Str × V)}, DnF K H M fs ws → fs.lookup x = some d → ∃ v, ws.lookup x = some v ∧ Dn K H M d v
  | [], _, _, e => by cases e
  | (y, c) :: fs, _, ⟨u, us, q, h, k⟩, e => by
    subst q
    unfold List.lookup at e ⊢
    cases z : x == y with
    | true => rw [z] at e; cases e; exact ⟨u, rfl, h⟩
    | false => rw [z] at e; exact DnF.look k e
/-- a new tuple, a new list -/
theorem new_xb {H : Hp} {M : Mk_} {p : Addr} {o : HO} (hp : H p = none) (w : Wd H M) : XB H M (upd H p o) M :=
  ⟨⟨fun b u h m _ => ⟨by rw [upd_ne (ne_of_none h hp)]; exact h, m⟩, fun b ps h m => ⟨⟨ps, by rw [upd_ne (ne_of_none h hp)]; exact h⟩, m⟩, fun _ h => h⟩, fun b h => ⟨h, upd_ne (by obtain ⟨xs, q⟩ := w.has h; exact ne_of_none q hp)⟩⟩
theorem new_wd {H : Hp} {M : Mk_} {p : Addr} {o : HO} (hp : H p = none) (w : Wd H M) : Wd (upd H p o) M :=
  ⟨fun a h => by
    obtain ⟨x, y, z, e, l⟩ := w.dk a h
    exact ⟨x, y, z, by rw [upd_ne (ne_of_none e hp)]; exact e, l⟩, fun a h => by
    obtain ⟨xs, e⟩ := w.ow a h
    exact ⟨xs, by rw [upd_ne (ne_of_none e hp)]; exact e⟩, tabs_new hp w.tb⟩
def Mk_.put (M : Mk_) (p : Addr) (b : Option Bool) : Mk_ := ⟨fun a => if a = p then b else M a, M.n⟩
theorem put_same {M : Mk_} {p : Addr} {b : Option Bool} : M.put p b p = b := if_pos rfl
theorem put_ne {M : Mk_} {p a : Addr} {b : Option Bool} (h : a ≠ p) : M.put p b a = M a := if_neg h
theorem own_xb {H : Hp} {M : Mk_} {p : Addr} {o : HO} (b : Bool) (hp : H p = none) (w : Wd H M) : XB H M (upd H p o) (M.put p (some b)) :=
  ⟨⟨fun c u h m _ => by
    have ne := ne_of_none h hp
    exact ⟨by rw [upd_ne ne]; exact h, by rw [put_ne ne]; exact m⟩, fun c ps h m => by
    have ne := ne_of_none h hp
    exact ⟨⟨ps, by rw [upd_ne ne]; exact h⟩, by rw [put_ne ne]; exact m⟩, fun c h => by
    obtain ⟨xs, q⟩ := w.has h
    rw [put_ne (ne_of_none q hp)]; exact h⟩, fun c h => by
    obtain ⟨xs, q⟩ := w.has h
    have ne := ne_of_none q hp
    exact ⟨by rw [put_ne ne]; exact h, upd_ne ne⟩⟩
theorem own_wd {H : Hp} {M : Mk_} {p : Addr} {xs : List V} (hp : H p = none) (w : Wd H M) : Wd (upd H p (.lst xs)) (M.put p (some false)) :=
  ⟨fun a h => by
    by_cases e : a = p
    · subst e; rw [put_same] at h; cases h
    · rw [put_ne e] at h
      obtain ⟨x, y, z, q, l⟩ := w.dk a h
      exact ⟨x, y, z, by rw [upd_ne e]; exact q, l⟩, fun a h => by
    by_cases e : a = p
    · subst e; exact ⟨xs, upd_same⟩
    · rw [put_ne e] at h
      obtain ⟨ys, q⟩ := w.ow a h
      exact ⟨ys, by rw [upd_ne e]; exact q⟩, tabs_new hp w.tb⟩
/-- an own list that stands still from now on -/
theorem frz_wd {H : Hp} {M : Mk_} {p : Addr} (w : Wd H M) : Wd H (M.put p none) :=
  ⟨fun a h => by
    by_cases e : a = p
    · subst e; rw [put_same] at h; cases h
    · rw [put_ne e] at h; exact w.dk a h, fun a h => by
    by_cases e : a = p
    · subst e; rw [put_same] at h; cases h
    · rw [put_ne e] at h; exact w.ow a h, w.tb⟩
theorem frz_xt {H : Hp} {M : Mk_} {p : Addr} (h : M p = some false) : XT H M H (M.put p none) :=
  ⟨fun b o q m _ => ⟨q, by
    by_cases e : b = p
    · subst e; exact put_same
    · rw [put_ne e]; exact m⟩, fun b ps q m => ⟨⟨ps, q⟩, by
    by_cases e : b = p
    · subst e; exact put_same
    · rw [put_ne e]; exact m⟩, fun b m => by
    by_cases e : b = p
    · subst e; rw [h] at m; cases m
    · rw [put_ne e]; exact m⟩
/-- what was new may be frozen: all that stood ahead stays -/
theorem frz_xb {H H' : Hp} {M M' : Mk_} {p : Addr} (x : XB H M H' M') (w : Wd H M) (h : M' p = some false) (hp : H p = none) : XB H M H' (M'.put p none) :=
  ⟨⟨fun b o q m n => by
    have z := x.k0 b o q m n
    exact ⟨z.1, by rw [put_ne (ne_of_none q hp)]; exact z.2⟩, fun b ps q m => by
    have z := x.kt b ps q m
    exact ⟨z.1, by rw [put_ne (ne_of_none q hp)]; exact z.2⟩, fun b m => by
    have z := x.k1 b m
    obtain ⟨xs, q⟩ := w.has m
    rw [put_ne (ne_of_none q hp)]; exact z⟩, fun b m => by
    have z := x.k2 b m
    obtain ⟨xs, q⟩ := w.has m
    rw [put_ne (ne_of_none q hp)]; exact z⟩
/-- an own list changes -/
theorem wr_xt {H : Hp} {M : Mk_} {p : Addr} {o : HO} (h : M p = some false) : XT H M (upd H p o) M :=
  ⟨fun b u q m _ => ⟨by rw [upd_ne (by rintro rfl; rw [h] at m; cases m)]; exact q, m⟩, fun b ps q m => ⟨⟨ps, by rw [upd_ne (by rintro rfl; rw [h] at m; cases m)]; exact q⟩, m⟩, fun _ h => h⟩
theorem wr_wd {H : Hp} {M : Mk_} {p : Addr} {xs : List V} (w : Wd H M) (h : M p = some false) : Wd (upd H p (.lst xs)) M :=
  ⟨fun a q => by
    obtain ⟨x, y, z, e, l⟩ := w.dk a q
    exact ⟨x, y, z, by rw [upd_ne (by rintro rfl; rw [h] at q; cases q)]; exact e, l⟩, fun a q => by
    by_cases e : a = p
    · subst e; exact ⟨xs, upd_same⟩
    · obtain ⟨ys, z⟩ := w.ow a q
      exact ⟨ys, by rw [upd_ne e]; exact z⟩, (let ⟨_, z⟩ := w.ow p h; tabs_wr z (fun _ z => nomatch z) (fun _ z => nomatch z) w.tb)⟩
theorem wr_xb {H0 H : Hp} {M0 M : Mk_} {p : Addr} {o : HO} (x : XB H0 M0 H M) (w : Wd H0 M0) (h : M p = some false) (hp : H0 p = none) : XB H0 M0 (upd H p o) M :=
  ⟨x.toXT.trans (wr_xt h), fun b m => by
    have z := x.k2 b m
    obtain ⟨xs, q⟩ := w.has m
    exact ⟨z.1, by rw [upd_ne (ne_of_none q hp)]; exact z.2⟩⟩
/-- c draws at the most -/
structure XE (c : Nat) (H : Hp) (M : Mk_) (H' : Hp) (M' : Mk_) : Prop extends XB H M H' M' where
  kn : M'.n ≤ M.n + c
theorem XE.refl {H : Hp} {M : Mk_} : XE 0 H M H M := ⟨.refl, Nat.le_refl _⟩
theorem XE.trans {a b : Nat} {H H1 H2 : Hp} {M M1 M2 : Mk_} (x : XE a H M H1 M1) (y : XE b H1 M1 H2 M2) : XE (a + b) H M H2 M2 := ⟨x.toXB.trans y.toXB, by have := x.kn; have := y.kn; omega⟩
theorem XE.mono {a b : Nat} {H H1 : Hp} {M M1 : Mk_} (x : XE a H M H1 M1) (l : a ≤ b) : XE b H M H1 M1 := ⟨x.toXB, Nat.le_trans x.kn (by omega)⟩
theorem XE.free {c : Nat} {H H' : Hp} {M M' : Mk_} (x : XE c H M H' M') (w : Wd H M) (w' : Wd H' M') {a : Addr} (h : H' a = none) : H a = none := x.toXB.free w w' h
theorem new_xe {H : Hp} {M : Mk_} {p : Addr} {o : HO} (hp : H p = none) (w : Wd H M) : XE 0 H M (upd H p o) M := ⟨new_xb hp w, Nat.le_refl _⟩
theorem own_xe {H : Hp} {M : Mk_} {p : Addr} {o : HO} (b : Bool) (hp : H p = none) (w : Wd H M) : XE 0 H M (upd H p o) (M.put p (some b)) := ⟨own_xb b hp w, Nat.le_refl _⟩
theorem wr_xe {c : Nat} {H0 H : Hp} {M0 M : Mk_} {p : Addr} {o : HO} (x : XE c H0 M0 H M) (w : Wd H0 M0) (h : M p = some false) (hp : H0 p = none) : XE c H0 M0 (upd H p o) M := ⟨wr_xb x.toXB w h hp, x.kn⟩
theorem frz_xe {c : Nat} {H H' : Hp} {M M' : Mk_} {p : Addr} (x : XE c H M H' M') (w : Wd H M) (h : M' p = some false) (hp : H p = none) : XE c H M H' (M'.put p none) := ⟨frz_xb x.toXB w h hp, x.kn⟩
end K
namespace K
open PySem L2 Rp
variable [TabT]
/-! Readings over data. -/
inductive DX where
  | d (x : D) | b (xs : List D)
def DX.get : DX → D
  | .d x => x
  | .b xs => .lst xs
section
variable (K : PySem.W.Frag)
def Dx (H0 H : Hp) (M : Mk_) : DX → V → Prop
  | .d x, v => Dn K H M x v
  | .b ds, v => ∃ a vs, v = .ref a ∧ M a = some false ∧ H0 a = none ∧ H a = some (.lst vs) ∧ DnL K H M ds vs
def DxL (H0 H : Hp) (M : Mk_) : List DX → List V → Prop
  | [], vs => vs = []
  | d :: ds, vs => ∃ w ws, vs = w :: ws ∧ Dx K H0 H M d w ∧ DxL H0 H M ds ws
end
inductive DV where
  | un | dat (d : D) | own (ds : List D)
abbrev Den := List DV
structure RS (K : PySem.W.Frag) (c : Nat) (H0 : Hp) (M0 : Mk_) (H : Hp) (M : Mk_) (σ : L2.St) (δ : Den) : Prop where
  w0 : Wd H0 M0
  wd : Wd H M
  base : XB H0 M0 H M
  cr : M.n + c ≤ M0.n
  lim : M0.n ≤ LIM
  len : σ.length = δ.length
  dat : ∀ (i : Nat) (d : D), δ[i]? = some (.dat d) → ∃ v, σ[i]? = some (some v) ∧ Dn K H M d v
  own : ∀ (i : Nat) (ds : List D), δ[i]? = some (.own ds) → ∃ a vs, σ[i]? = some (some (.ref a)) ∧ M a = some false ∧ H0 a = none ∧ H a = some (.lst vs) ∧ DnL K H M ds vs
  uniq : ∀ (i j : Nat) (x y : List D) (a : Addr), δ[i]? = some (.own x) → δ[j]? = some (.own y) → σ[i]? = some (some (.ref a)) → σ[j]? = some (some (.ref a)) → i = j
section
variable {K : PySem.W.Frag} {H0 : Hp} {M0 : Mk_} {H H' : Hp} {M M' : Mk_} {σ : L2.St} {δ : Den} {c c' : Nat}
theorem Dx.xe {a : Nat} (w : Wd H M) (x : XE a H M H' M') {d : DX} {v : V} (h : Dx K H0 H M d v) : Dx K H0 H' M' d v := by
  cases d with
  | d d => exact Dn.xt w x.toXT _ _ h
  | b ds =>
    obtain ⟨a, vs, e, m, n, q, k⟩ := h
    exact ⟨_, vs, e, (x.k2 _ m).1, n, (x.k2 _ m).2.trans q, DnL.xt w x.toXT _ _ k⟩
theorem DxL.xe {a : Nat} (w : Wd H M) (x : XE a H M H' M') : ∀ {ds : List DX} {vs : List V}, DxL K H0 H M ds vs → DxL K H0 H' M' ds vs
  | [], _, h => h
  | d :: ds, _, ⟨u, us, e, h, k⟩ => ⟨u, us, e, h.xe w x, DxL.xe w x k⟩
theorem RS.l (r : RS K (c + c') H0 M0 H M σ δ) : RS K c H0 M0 H M σ δ := ⟨r.w0, r.wd, r.base, by have := r.cr; omega, r.lim, r.len, r.dat, r.own, r.uniq⟩
theorem RS.le (r : RS K c H0 M0 H M σ δ) (l : c' ≤ c) : RS K c' H0 M0 H M σ δ := ⟨r.w0, r.wd, r.base, by have := r.cr; omega, r.lim, r.len, r.dat, r.own, r.uniq⟩
theorem RS.xe {a : Nat} (r : RS K (a + c) H0 M0 H M σ δ) (w' : Wd H' M') (x : XE a H M H' M') : RS K c H0 M0 H' M' σ δ :=
  ⟨r.w0, w', r.base.trans x.toXB, by have := r.cr; have := x.kn; omega, r.lim, r.len, fun i d h => by
    obtain ⟨v, e, q⟩ := r.dat i d h
    exact ⟨v, e, Dn.xt r.wd x.toXT _ _ q⟩, fun i ds h => by
    obtain ⟨a, vs, e, m, n, q, k⟩ := r.own i ds h
    exact ⟨_, vs, e, (x.k2 _ m).1, n, (x.k2 _ m).2.trans q, DnL.xt r.wd x.toXT _ _ k⟩, r.uniq⟩
/-- as RS.xe, what is left told apart -/
theorem RS.xl {a : Nat} (r : RS K c H0 M0 H M σ δ) (w' : Wd H' M') (x : XE a H M H' M') (l : a + c' ≤ c) : RS K c' H0 M0 H' M' σ δ := (r.le l).xe w' x
/-- a slot takes data -/
theorem RS.set (r : RS K c H0 M0 H M σ δ) {d : D} {v : V} (h : Dn K H M d v) (i : Nat) : RS K c H0 M0 H M (σ.set i (some v)) (δ.set i (.dat d)) := by
  have g : ∀ (j : Nat) (x : List D), (δ.set i (.dat d))[j]? = some (.own x) → j ≠ i ∧ δ[j]? = some (.own x) := fun j x e => by
    rw [List.getElem?_set] at e
    by_cases z : i = j
    · rw [if_pos z] at e
      split at e <;> cases e
    · rw [if_neg z] at e
      exact ⟨Ne.symm z, e⟩
  have s : ∀ j : Nat, j ≠ i → (σ.set i (some v))[j]? = σ[j]? := fun j z => by rw [List.getElem?_set, if_neg (Ne.symm z)]
  refine ⟨r.w0, r.wd, r.base, r.cr, r.lim, by rw [List.length_set, List.length_set]; exact r.len, fun j c e => ?_, fun j x e => ?_, fun j k x y a e1 e2 e3 e4 => ?_⟩
  · by_cases z : j = i
    · subst z
      rw [List.getElem?_set, if_pos rfl] at e
      split at e
      · cases e
        refine ⟨v, ?_, h⟩
        rw [List.getElem?_set, if_pos rfl, if_pos (by rw [r.len]; assumption)]
      · cases e
    · rw [List.getElem?_set, if_neg (Ne.symm z)] at e
      rw [s j z]
      exact r.dat j c e
  · obtain ⟨z, e⟩ := g j x e
    rw [s j z]
    exact r.own j x e
  · obtain ⟨z1, e1⟩ := g j x e1
    obtain ⟨z2, e2⟩ := g k y e2
    rw [s j z1] at e3
    rw [s k z2] at e4
    exact r.uniq j k x y a e1 e2 e3 e4
/-- a slot takes a new list of one's own -/
theorem RS.setOwn (r : RS K c H0 M0 H M σ δ) {a : Addr} {ds : List D} {vs : List V} (m : M a = some false) (n0 : H0 a = none) (q : H a = some (.lst vs)) (k : DnL K H M ds vs) (i : Nat)
    (new : ∀ (j : Nat) (x : List D), δ[j]? = some (.own x) → j ≠ i → σ[j]? ≠ some (some (.ref a))) : RS K c H0 M0 H M (σ.set i (some (.ref a))) (δ.set i (.own ds)) := by
  have s : ∀ j : Nat, j ≠ i → (σ.set i (some (.ref a)))[j]? = σ[j]? := fun j z => by rw [List.getElem?_set, if_neg (Ne.symm z)]
  have d : ∀ j : Nat, j ≠ i → (δ.set i (.own ds))[j]? = δ[j]? := fun j z => by rw [List.getElem?_set, if_neg (Ne.symm z)]
  refine ⟨r.w0, r.wd, r.base, r.cr, r.lim, by rw [List.length_set, List.length_set]; exact r.len, fun j c e => ?_, fun j x e => ?_, fun j l x y b e1 e2 e3 e4 => ?_⟩
  · by_cases z : j = i
    · subst z
      rw [List.getElem?_set, if_pos rfl] at e
      split at e <;> cases e
    · rw [d j z] at e
      rw [s j z]
      exact r.dat j c e
  · by_cases z : j = i
    · subst z
      rw [List.getElem?_set, if_pos rfl] at e
      split at e
      · cases e
        refine ⟨a, vs, ?_, m, n0, q, k⟩
        rw [List.getElem?_set, if_pos rfl, if_pos (by rw [r.len]; assumption)]
      · cases e
    · rw [d j z] at e
      rw [s j z]
      exact r.own j x e
  · by_cases z : j = i
    · by_cases y' : l = i
      · rw [z, y']
      · rw [d l y'] at e2
        rw [s l y'] at e4
        subst z
        rw [List.getElem?_set, if_pos rfl] at e3
        split at e3
        · cases e3
          exact absurd e4 (new l y e2 y')
        · cases e3
    · by_cases y' : l = i
      · rw [d j z] at e1
        rw [s j z] at e3
        subst y'
        rw [List.getElem?_set, if_pos rfl] at e4
        split at e4
        · cases e4
          exact absurd e3 (new j x e1 z)
        · cases e4
      · rw [d j z] at e1
        rw [s j z] at e3
        rw [d l y'] at e2
        rw [s l y'] at e4
        exact r.uniq j l x y b e1 e2 e3 e4
theorem RS.old (r : RS K c H0 M0 H M σ δ) {a : Addr} (h : H a = none) : H0 a = none := r.base.free r.w0 r.wd h
theorem RS.newOwn (r : RS K c H0 M0 H M σ δ) {a : Addr} (n : H a = none) : ∀ (j : Nat) (x : List D), δ[j]? = some (.own x) → σ[j]? ≠ some (some (.ref a)) := fun j x e z => by
  obtain ⟨b, vs, e1, _, _, q, _⟩ := r.own j x e
  rw [z] at e1
  cases e1
  rw [n] at q
  cases q
/-- the own list in a slot changes -/
theorem RS.write (r : RS K c H0 M0 H M σ δ) {i : Nat} {ds es : List D} {a : Addr} {us : List V} (e : δ[i]? = some (.own ds)) (s : σ[i]? = some (some (.ref a))) (k : DnL K H M es us) :
    RS K c H0 M0 (upd H a (.lst us)) M σ (δ.set i (.own es)) := by
  obtain ⟨b, vs, e1, m, n0, q, _⟩ := r.own i ds e
  rw [s] at e1
  cases e1
  have x := wr_xt (H := H) (o := .lst us) m
  have li : i < δ.length := by
    obtain ⟨h, _⟩ := List.getElem?_eq_some_iff.mp e
    exact h
  have d : ∀ j : Nat, j ≠ i → (δ.set i (.own es))[j]? = δ[j]? := fun j z => by rw [List.getElem?_set, if_neg (Ne.symm z)]
  have o : ∀ (j : Nat) (y : List D), (δ.set i (.own es))[j]? = some (.own y) → ∃ y', δ[j]? = some (.own y') := fun j y q => by
    by_cases z : j = i
    · rw [z]; exact ⟨ds, e⟩
    · rw [d j z] at q; exact ⟨y, q⟩
  refine ⟨r.w0, wr_wd r.wd m, wr_xb r.base r.w0 m n0, r.cr, r.lim, by rw [List.length_set]; exact r.len, fun j c q => ?_, fun j y q => ?_, fun j l y z b e1 e2 e3 e4 => ?_⟩
  · by_cases z : j = i
    · subst z
      rw [List.getElem?_set, if_pos rfl, if_pos li] at q
      cases q
    · rw [d j z] at q
      obtain ⟨v, e1, e2⟩ := r.dat j c q
      exact ⟨v, e1, Dn.xt r.wd x _ _ e2⟩
  · by_cases z : j = i
    · subst z
      rw [List.getElem?_set, if_pos rfl, if_pos li] at q
      cases q
      exact ⟨_, us, s, m, n0, upd_same, DnL.xt r.wd x _ _ k⟩
    · rw [d j z] at q
      obtain ⟨b, ws, e1, m', n', q', k'⟩ := r.own j y q
      have ne : b ≠ a := fun h => z (r.uniq j i y ds a q e (by rw [e1, h]) s)
      exact ⟨b, ws, e1, m', n', by rw [upd_ne ne]; exact q', DnL.xt r.wd x _ _ k'⟩
  · obtain ⟨y', e1⟩ := o j y e1
    obtain ⟨z', e2⟩ := o l z e2
    exact r.uniq j l y' z' b e1 e2 e3 e4
/-- the own list in a slot stands still from now on -/
theorem RS.frz (r : RS K c H0 M0 H M σ δ) {i : Nat} {ds : List D} (e : δ[i]? = some (.own ds)) : ∃ M', RS K c H0 M0 H M' σ (δ.set i (.dat (.lst ds))) ∧ XT H M H M' := by
  obtain ⟨a, vs, s, m, n0, q, k⟩ := r.own i ds e
  have x := frz_xt (H := H) m
  have li : i < δ.length := by
    obtain ⟨h, _⟩ := List.getElem?_eq_some_iff.mp e
    exact h
  have d : ∀ j : Nat, j ≠ i → (δ.set i (.dat (.lst ds)))[j]? = δ[j]? := fun j z => by rw [List.getElem?_set, if_neg (Ne.symm z)]
  have o : ∀ (j : Nat) (y : List D), (δ.set i (.dat (.lst ds)))[j]? = some (.own y) → j ≠ i ∧ δ[j]? = some (.own y) := fun j y q => by
    by_cases z : j = i
    · subst z
      rw [List.getElem?_set, if_pos rfl, if_pos li] at q
      cases q
    · rw [d j z] at q; exact ⟨z, q⟩
  refine ⟨M.put a none, ⟨r.w0, frz_wd r.wd, frz_xb r.base r.w0 m n0, r.cr, r.lim, by rw [List.length_set]; exact r.len, fun j c q' => ?_, fun j y q' => ?_, fun j l y z b e1 e2 e3 e4 => ?_⟩, x⟩
  · by_cases z : j = i
    · subst z
      rw [List.getElem?_set, if_pos rfl, if_pos li] at q'
      cases q'
      exact ⟨.ref a, s, a, vs, rfl, q, put_same, DnL.xt r.wd x _ _ k⟩
    · rw [d j z] at q'
      obtain ⟨v, e1, e2⟩ := r.dat j c q'
      exact ⟨v, e1, Dn.xt r.wd x _ _ e2⟩
  · obtain ⟨z, q'⟩ := o j y q'
    obtain ⟨b, ws, e1, m', n', g, k'⟩ := r.own j y q'
    have ne : b ≠ a := fun h => z (r.uniq j i y ds a q' e (by rw [e1, h]) s)
    exact ⟨b, ws, e1, by rw [put_ne ne]; exact m', n', g, DnL.xt r.wd x _ _ k'⟩
  · exact r.uniq j l y z b (o j y e1).2 (o l z e2).2 e3 e4
end
abbrev TDE := Den → (DX → Prop) → Prop
abbrev TDT := Den → (Bool → Prop) → Prop
abbrev TDA := Den → (List DX → Prop) → Prop
abbrev TDF := Den → (List D → Prop) → Prop
structure DEnds where
  nx : Den → Prop
  rt : D → Prop
  bk : Den → Prop := fun _ => False
  ct : Den → Prop := fun _ => False
abbrev TDS := DEnds → Den → Prop
section
variable (K : PySem.W.Frag)
structure SE (c : Nat) (t : TE) (τ : TDE) : Prop where
  run : ∀ H0 M0 H M σ δ (Q : VK) (Qd : DX → Prop), RS K c H0 M0 H M σ δ → τ δ Qd → (∀ x v H' M', Wd H' M' → XE c H M H' M' → Dx K H0 H' M' x v → Qd x → Q v H') → t σ H Q
structure ST (c : Nat) (t : TT) (τ : TDT) : Prop where
  run : ∀ H0 M0 H M σ δ (Q : Bool → Hp → Prop) (Qd : Bool → Prop), RS K c H0 M0 H M σ δ → τ δ Qd → (∀ b H' M', Wd H' M' → XE c H M H' M' → Qd b → Q b H') → t σ H Q
structure SA (c : Nat) (t : TA) (τ : TDA) : Prop where
  run : ∀ H0 M0 H M σ δ (Q : List V → Hp → Prop) (Qd : List DX → Prop), RS K c H0 M0 H M σ δ → τ δ Qd → (∀ xs vs H' M', Wd H' M' → XE c H M H' M' → DxL K H0 H' M' xs vs → Qd xs → Q vs H') → t σ H Q
/-- a list that is new -/
structure SF (c : Nat) (t : TE) (τ : TDF) : Prop where
  run : ∀ H0 M0 H M σ δ (Q : VK) (Qd : List D → Prop), RS K c H0 M0 H M σ δ → τ δ Qd → (∀ ds a vs H' M', Wd H' M' → XE c H M H' M' → M' a = some false → H a = none → H' a = some (.lst vs) → DnL K H' M' ds vs → Qd ds → Q (.ref a) H') → t σ H Q
structure Goes (r : Nat) (H0 : Hp) (M0 : Mk_) (H : Hp) (M : Mk_) (D : Ends) (DD : DEnds) : Prop where
  nx : ∀ σ' δ' H' M', RS K r H0 M0 H' M' σ' δ' → XT H M H' M' → DD.nx δ' → D.nx σ' H'
  rt : ∀ d v H' M', Wd H' M' → XB H0 M0 H' M' → M'.n + r ≤ M0.n → Dn K H' M' d v → DD.rt d → D.rt v H'
  bk : ∀ σ' δ' H' M', RS K r H0 M0 H' M' σ' δ' → XT H M H' M' → DD.bk δ' → D.bk σ' H'
  ct : ∀ σ' δ' H' M', RS K r H0 M0 H' M' σ' δ' → XT H M H' M' → DD.ct δ' → D.ct σ' H'
structure SS (c : Nat) (t : TS) (τ : TDS) : Prop where
  run : ∀ r H0 M0 H M σ δ (D : Ends) (DD : DEnds), RS K (c + r) H0 M0 H M σ δ → τ DD δ → Goes K r H0 M0 H M D DD → t D σ H
/-- a target of names: is the slots it stores -/
structure SG (t : TG) (γ : DX → Den → (Den → Prop) → Prop) (is : List Nat) : Prop where
  run : ∀ c H0 M0 H M σ δ x v (Q : L2.St → Hp → Prop) (Qd : Den → Prop), RS K c H0 M0 H M σ δ → Dx K H0 H M x v → γ x δ Qd → (∀ σ' δ', RS K c H0 M0 H M σ' δ' → (∀ vs : List Nat, (∀ i ∈ is, i ∈ vs) → wipe σ' vs = wipe σ vs) → Qd δ' → Q σ' H) → t v σ H Q
structure SGs (t : TGs) (γ : List D → Den → (Den → Prop) → Prop) (is : List Nat) : Prop where
  run : ∀ c H0 M0 H M σ δ xs vs (Q : L2.St → Hp → Prop) (Qd : Den → Prop), RS K c H0 M0 H M σ δ → DnL K H M xs vs → γ xs δ Qd → (∀ σ' δ', RS K c H0 M0 H M σ' δ' → (∀ us : List Nat, (∀ i ∈ is, i ∈ us) → wipe σ' us = wipe σ us) → Qd δ' → Q σ' H) → t vs σ H Q
/-- what is walked -/
structure Walks (J : It) (ds : List D) (H : Hp) (M : Mk_) : Prop where
  item : ∀ (i : Nat) (d : D) H1 M1, ds[i]? = some d → Wd H1 M1 → XT H M H1 M1 → J.go i H1 ∧ ∀ x H2, J.yld i H1 x H2 → ∃ M2, Wd H2 M2 ∧ XE 0 H1 M1 H2 M2 ∧ Dn K H2 M2 d x
  stop : ∀ H1 M1, Wd H1 M1 → XT H M H1 M1 → J.stop ds.length H1
structure SI (c : Nat) (wi : TI) (ω : TDF) : Prop where
  run : ∀ H0 M0 H M σ δ (R : It → Hp → Prop) (Rd : List D → Prop), RS K c H0 M0 H M σ δ → ω δ Rd → (∀ J ds H' M', Wd H' M' → XE c H M H' M' → Walks K J ds H' M' → Rd ds → R J H') → wi σ H R
/-- what two values come to -/
structure SR2 (r : R2) (ρ : DX → DX → (DX → Prop) → Prop) : Prop where
  run : ∀ H0 H M x y v u (Q : VK) (Qd : DX → Prop), Wd H M → Dx K H0 H M x v → Dx K H0 H M y u → ρ x y Qd → (∀ z w H' M', Wd H' M' → XE 0 H M H' M' → Dx K H0 H' M' z w → Qd z → Q w H') → r v u H Q
structure SC (r : List V → Hp → VK → Prop) (ρ : List DX → (DX → Prop) → Prop) : Prop where
  run : ∀ H0 H M xs vs (Q : VK) (Qd : DX → Prop), Wd H M → DxL K H0 H M xs vs → ρ xs Qd → (∀ z w H' M', Wd H' M' → XE 0 H M H' M' → Dx K H0 H' M' z w → Qd z → Q w H') → r vs H Q
end
end K
namespace K
open PySem L2 Rp
variable [TabT]
/-! ### expressions -/
def dVar (i : Nat) : TDE := fun δ Q => match (δ[i]? : Option DV) with
  | some (.dat d) => Q (.d d)
  | some (.own ds) => Q (.b ds)
  | _ => False
def dC (d : D) : TDE := fun _ Q => Q (.d d)
def dOp (ρ : DX → DX → (DX → Prop) → Prop) (a b : TDE) : TDE := fun δ Q => a δ fun x => b δ fun y => ρ x y Q
section
variable {K : PySem.W.Frag}
theorem se_var (i : Nat) : SE K 0 (tVar i) (dVar i) := ⟨fun H0 M0 H M σ δ Q Qd r h k => by
  unfold dVar at h
  cases e : (δ[i]? : Option DV) with
  | none => rw [e] at h; exact h.elim
  | some z =>
    rw [e] at h
    cases z with
    | un => exact h.elim
    | dat d =>
      obtain ⟨v, q, n⟩ := r.dat i d e
      exact ⟨v, q, k (.d d) v H M r.wd .refl n h⟩
    | own ds =>
      obtain ⟨a, vs, q, m, n0, l, n⟩ := r.own i ds e
      exact ⟨.ref a, q, k (.b ds) _ H M r.wd .refl ⟨a, vs, rfl, m, n0, l, n⟩ h⟩⟩
theorem se_c {v : V} {d : D} (h : ∀ H M, Dn K H M d v) : SE K 0 (tC v) (dC d) := ⟨fun H0 M0 H M σ δ Q Qd r q k => k (.d d) v H M r.wd .refl (h _ _) q⟩
theorem se_int {i : Int} : SE K 0 (tC (.int i)) (dC (.int i)) := se_c fun _ _ => rfl
theorem se_bl {i : Bool} : SE K 0 (tC (.bl i)) (dC (.bl i)) := se_c fun _ _ => rfl
theorem se_str {i : Str} : SE K 0 (tC (.str i)) (dC (.str i)) := se_c fun _ _ => rfl
theorem se_non : SE K 0 (tC .non) (dC .non) := se_c fun _ _ => rfl
theorem se_raw {v : V} : SE K 0 (tC v) (dC (.raw v)) := se_c fun _ _ => rfl
theorem se_op {r : R2} {ρ : DX → DX → (DX → Prop) → Prop} {ta tb : TE} {a b : TDE} (hr : SR2 K r ρ) (ha : SE K κ1 ta a) (hb : SE K κ2 tb b) : SE K (κ1 + κ2) (tOp r ta tb) (dOp ρ a b) := ⟨fun H0 M0 H M σ δ Q Qd s h k =>
  ha.run H0 M0 H M σ δ _ _ s.l h fun x v H1 M1 w1 e1 n1 h1 => hb.run H0 M0 H1 M1 σ δ _ _ (s.xe w1 e1) h1 fun y u H2 M2 w2 e2 n2 h2 =>
    hr.run H0 H2 M2 x y v u _ _ w2 (n1.xe w1 e2) n2 h2 fun z w H3 M3 w3 e3 n3 h3 => k z w H3 M3 w3 ((e1.trans e2).trans e3) n3 h3⟩
/-! scalars -/
def ρI0 (g : Int → Int → D) : DX → DX → (DX → Prop) → Prop := fun x y Q => match x, y with
  | .d (.int i), .d (.int j) => Q (.d (g i j))
  | _, _ => False
def ρI (C : Int → Int → Prop) (g : Int → Int → D) : DX → DX → (DX → Prop) → Prop := fun x y Q => match x, y with
  | .d (.int i), .d (.int j) => C i j ∧ Q (.d (g i j))
  | _, _ => False
def ρS0 (g : Str → Str → D) : DX → DX → (DX → Prop) → Prop := fun x y Q => match x, y with
  | .d (.str i), .d (.str j) => Q (.d (g i j))
  | _, _ => False
theorem int_x {H0 H : Hp} {M : Mk_} {x : DX} {v : V} (n : Dx K H0 H M x v) {P : Int → Prop} (h : (match x with | .d (.int i) => P i | _ => False) ) : ∃ i, x = .d (.int i) ∧ v = .int i ∧ P i := by
  cases x with
  | b _ => exact h.elim
  | d x => cases x <;> first | exact h.elim | exact ⟨_, rfl, n, h⟩
theorem sr_I0 {gv : Int → Int → V} {g : Int → Int → D} (e : ∀ H M i j, Dn K H M (g i j) (gv i j)) : SR2 K (rI0 gv) (ρI0 g) := ⟨fun H0 H M x y v u Q Qd w n1 n2 h k => by
  cases x with
  | b _ => exact h.elim
  | d x =>
    cases y with
    | b _ => cases x <;> exact h.elim
    | d y =>
      cases x <;> try exact h.elim
      cases y <;> try exact h.elim
      exact ⟨_, _, n1, n2, k (.d _) _ H M w .refl (e _ _ _ _) h⟩⟩
theorem sr_I {C : Int → Int → Prop} {gv : Int → Int → V} {g : Int → Int → D} (e : ∀ H M i j, Dn K H M (g i j) (gv i j)) : SR2 K (rI C gv) (ρI C g) := ⟨fun H0 H M x y v u Q Qd w n1 n2 h k => by
  cases x with
  | b _ => exact h.elim
  | d x =>
    cases y with
    | b _ => cases x <;> exact h.elim
    | d y =>
      cases x <;> try exact h.elim
      cases y <;> try exact h.elim
      exact ⟨_, _, n1, n2, h.1, k (.d _) _ H M w .refl (e _ _ _ _) h.2⟩⟩
theorem sr_add : SR2 K (rI0 fun i j => .int (i + j)) (ρI0 fun i j => .int (i + j)) := sr_I0 fun _ _ _ _ => rfl
theorem sr_sub : SR2 K (rI0 fun i j => .int (i - j)) (ρI0 fun i j => .int (i - j)) := sr_I0 fun _ _ _ _ => rfl
theorem sr_lt : SR2 K (rI0 fun i j => .bl (decide (i < j))) (ρI0 fun i j => .bl (decide (i < j))) := sr_I0 fun _ _ _ _ => rfl
theorem sr_le : SR2 K (rI0 fun i j => .bl (decide (i ≤ j))) (ρI0 fun i j => .bl (decide (i ≤ j))) := sr_I0 fun _ _ _ _ => rfl
theorem sr_gt : SR2 K (rI0 fun i j => .bl (decide (j < i))) (ρI0 fun i j => .bl (decide (j < i))) := sr_I0 fun _ _ _ _ => rfl
theorem sr_ge : SR2 K (rI0 fun i j => .bl (decide (j ≤ i))) (ρI0 fun i j => .bl (decide (j ≤ i))) := sr_I0 fun _ _ _ _ => rfl
theorem sr_mul : SR2 K (rI CMul fun i j => .int (i * j)) (ρI CMul fun i j => .int (i * j)) := sr_I fun _ _ _ _ => rfl
theorem sr_mulW : SR2 K (rI CMulW fun i j => .int (i * j)) (ρI CMulW fun i j => .int (i * j)) := sr_I fun _ _ _ _ => rfl
theorem sr_fdiv : SR2 K (rI CDiv fun i j => .int (i / j)) (ρI CDiv fun i j => .int (i / j)) := sr_I fun _ _ _ _ => rfl
theorem sr_fdivN : SR2 K (rI CDivN fun i j => .int (i.fdiv j)) (ρI CDivN fun i j => .int (i.fdiv j)) := sr_I fun _ _ _ _ => rfl
theorem sr_mod : SR2 K (rI (fun _ j => 0 < j) fun i j => .int (i % j)) (ρI (fun _ j => 0 < j) fun i j => .int (i % j)) := sr_I fun _ _ _ _ => rfl
theorem sr_modN : SR2 K (rI (fun _ j => j ≠ 0) fun i j => .int (i.fmod j)) (ρI (fun _ j => j ≠ 0) fun i j => .int (i.fmod j)) := sr_I fun _ _ _ _ => rfl
theorem sr_pow : SR2 K (rI CPow fun i j => .int (i ^ j.toNat)) (ρI CPow fun i j => .int (i ^ j.toNat)) := sr_I fun _ _ _ _ => rfl
theorem sr_shl : SR2 K (rI CPow fun i j => .int (i * 2 ^ j.toNat)) (ρI CPow fun i j => .int (i * 2 ^ j.toNat)) := sr_I fun _ _ _ _ => rfl
def ρAddS : DX → DX → (DX → Prop) → Prop := fun x y Q => match x, y with
  | .d (.str i), .d (.str j) => i.length + j.length ≤ sizeLine ∧ Q (.d (.str (i ++ j)))
  | _, _ => False
theorem sr_add_str : SR2 K (fun x y H Q => ∃ i j, x = .str i ∧ y = .str j ∧ i.length + j.length ≤ sizeLine ∧ Q (.str (i ++ j)) H) ρAddS := ⟨fun H0 H M x y v u Q Qd w n1 n2 h k => by
  cases x with
  | b _ => exact h.elim
  | d x =>
    cases y with
    | b _ => cases x <;> exact h.elim
    | d y =>
      cases x <;> try exact h.elim
      cases y <;> try exact h.elim
      exact ⟨_, _, n1, n2, h.1, k (.d (.str _)) _ H M w .refl rfl h.2⟩⟩
theorem sr_lt_str : SR2 K (fun x y H Q => ∃ i j, x = .str i ∧ y = .str j ∧ Q (.bl (decide (i.cps.toList < j.cps.toList))) H) (ρS0 fun i j => .bl (decide (i.cps.toList < j.cps.toList))) := ⟨fun H0 H M x y v u Q Qd w n1 n2 h k => by
  cases x with
  | b _ => exact h.elim
  | d x =>
    cases y with
    | b _ => cases x <;> exact h.elim
    | d y =>
      cases x <;> try exact h.elim
      cases y <;> try exact h.elim
      exact ⟨_, _, n1, n2, k (.d (.bl _)) _ H M w .refl rfl h⟩⟩
/-- flat values -/
def D.sv : D → Option V
  | .non => some .non
  | .bl b => some (.bl b)
  | .int i => some (.int i)
  | .str s => some (.str s)
  | _ => none
theorem D.sv_is {d : D} {v v' : V} {H : Hp} {M : Mk_} (n : Dn K H M d v) (e : d.sv = some v') : v = v' := by
  cases d <;> cases e <;> exact n
def ρEq (neg : Bool) : DX → DX → (DX → Prop) → Prop := fun x y Q => match x, y with
  | .d a, .d b => match a.sv, b.sv with
    | some v, some w => scal v w = true ∧ Q (.d (.bl (if neg then !decide (v = w) else decide (v = w))))
    | _, _ => False
  | _, _ => False
theorem sr_eq' {neg : Bool} {r : R2} (hr : r = fun x y H Q => scal x y = true ∧ Q (.bl (if neg then !decide (x = y) else decide (x = y))) H) : SR2 K r (ρEq neg) := ⟨fun H0 H M x y v u Q Qd w n1 n2 h k => by
  subst hr
  cases x with
  | b _ => exact h.elim
  | d x =>
    cases y with
    | b _ => exact h.elim
    | d y =>
      unfold ρEq at h
      cases e1 : x.sv with
      | none => simp only [e1] at h
      | some a =>
        cases e2 : y.sv with
        | none => simp only [e1, e2] at h
        | some b =>
          simp only [e1, e2] at h
          rw [D.sv_is n1 e1, D.sv_is n2 e2]
          exact ⟨h.1, k (.d (.bl _)) _ H M w .refl rfl h.2⟩⟩
theorem sr_eq : SR2 K rEq (ρEq false) := sr_eq' rfl
theorem sr_ne : SR2 K rNe (ρEq true) := sr_eq' rfl
/-! tests -/
def dB (τ : TDE) : TDT := fun δ Q => τ δ fun x => match x with
  | .d (.bl b) => Q b
  | _ => False
theorem st_of {t : TE} {τ : TDE} (h : SE K κ1 t τ) : ST K κ1 (fun σ H Q => t σ H fun x H1 => ∃ c, x = .bl c ∧ Q c H1) (dB τ) := ⟨fun H0 M0 H M σ δ Q Qd r q k => h.run H0 M0 H M σ δ _ _ r q fun x v H' M' w' e n z => by
  cases x with
  | b _ => exact z.elim
  | d x => cases x <;> first | exact z.elim | exact ⟨_, n, k _ H' M' w' e z⟩⟩
theorem st_b {t : TE} {τ : TDE} (h : SE K κ1 t τ) : ST K κ1 (tB t) (dB τ) := st_of h
theorem st_test {t : TE} {τ : TDE} (h : SE K κ1 t τ) : ST K κ1 (tTest t) (dB τ) := st_of h
def dNot (τ : TDT) : TDT := fun δ Q => τ δ fun b => Q (!b)
theorem st_not {t : TT} {τ : TDT} (h : ST K κ1 t τ) : ST K κ1 (tNot t) (dNot τ) := ⟨fun H0 M0 H M σ δ Q Qd r q k => h.run H0 M0 H M σ δ _ _ r q fun b H' M' w e z => k _ H' M' w e z⟩
def dAnd (a b : TDT) : TDT := fun δ Q => a δ fun c => (c = true → b δ Q) ∧ (c = false → Q false)
def dOr (a b : TDT) : TDT := fun δ Q => a δ fun c => (c = true → Q true) ∧ (c = false → b δ Q)
theorem st_and {t u : TT} {a b : TDT} (ha : ST K κ1 t a) (hb : ST K κ2 u b) : ST K (κ1 + κ2) (tAnd t u) (dAnd a b) := ⟨fun H0 M0 H M σ δ Q Qd r q k => ha.run H0 M0 H M σ δ _ _ r.l q fun c H1 M1 w1 e1 z => by
  cases c with
  | true => exact iteT (hb.run H0 M0 H1 M1 σ δ _ _ (r.xe w1 e1) (z.1 rfl) fun b H2 M2 w2 e2 y => k b H2 M2 w2 (e1.trans e2) y)
  | false => exact iteF (k _ H1 M1 w1 (e1.mono (by omega)) (z.2 rfl))⟩
theorem st_or {t u : TT} {a b : TDT} (ha : ST K κ1 t a) (hb : ST K κ2 u b) : ST K (κ1 + κ2) (tOr t u) (dOr a b) := ⟨fun H0 M0 H M σ δ Q Qd r q k => ha.run H0 M0 H M σ δ _ _ r.l q fun c H1 M1 w1 e1 z => by
  cases c with
  | false => exact iteF (hb.run H0 M0 H1 M1 σ δ _ _ (r.xe w1 e1) (z.2 rfl) fun b H2 M2 w2 e2 y => k b H2 M2 w2 (e1.trans e2) y)
  | true => exact iteT (k _ H1 M1 w1 (e1.mono (by omega)) (z.1 rfl))⟩
def dAndV (a b : TDE) : TDE := fun δ Q => a δ fun x => match x with
  | .d (.bl c) => (c = true → b δ Q) ∧ (c = false → Q (.d (.bl false)))
  | _ => False
def dOrV (a b : TDE) : TDE := fun δ Q => a δ fun x => match x with
  | .d (.bl c) => (c = true → Q (.d (.bl true))) ∧ (c = false → b δ Q)
  | _ => False
def dNotV (a : TDE) : TDE := fun δ Q => a δ fun x => match x with
  | .d (.bl c) => Q (.d (.bl (!c)))
  | _ => False
theorem se_andV {t u : TE} {a b : TDE} (ha : SE K κ1 t a) (hb : SE K κ2 u b) : SE K (κ1 + κ2) (tAndV t u) (dAndV a b) := ⟨fun H0 M0 H M σ δ Q Qd r q k => ha.run H0 M0 H M σ δ _ _ r.l q fun x v H1 M1 w1 e1 n1 z => by
  cases x with
  | b _ => exact z.elim
  | d x =>
    cases x <;> try exact z.elim
    rename_i c
    refine ⟨c, n1, ?_⟩
    cases c with
    | true => exact iteT (hb.run H0 M0 H1 M1 σ δ _ _ (r.xe w1 e1) (z.1 rfl) fun b u H2 M2 w2 e2 n2 y => k b u H2 M2 w2 (e1.trans e2) n2 y)
    | false => exact iteF (k (.d (.bl _)) _ H1 M1 w1 (e1.mono (by omega)) rfl (z.2 rfl))⟩
theorem se_orV {t u : TE} {a b : TDE} (ha : SE K κ1 t a) (hb : SE K κ2 u b) : SE K (κ1 + κ2) (tOrV t u) (dOrV a b) := ⟨fun H0 M0 H M σ δ Q Qd r q k => ha.run H0 M0 H M σ δ _ _ r.l q fun x v H1 M1 w1 e1 n1 z => by
  cases x with
  | b _ => exact z.elim
  | d x =>
    cases x <;> try exact z.elim
    rename_i c
    refine ⟨c, n1, ?_⟩
    cases c with
    | false => exact iteF (hb.run H0 M0 H1 M1 σ δ _ _ (r.xe w1 e1) (z.2 rfl) fun b u H2 M2 w2 e2 n2 y => k b u H2 M2 w2 (e1.trans e2) n2 y)
    | true => exact iteT (k (.d (.bl _)) _ H1 M1 w1 (e1.mono (by omega)) rfl (z.1 rfl))⟩
theorem se_notV {t : TE} {a : TDE} (ha : SE K κ1 t a) : SE K κ1 (tNotV t) (dNotV a) := ⟨fun H0 M0 H M σ δ Q Qd r q k => ha.run H0 M0 H M σ δ _ _ r q fun x v H1 M1 w1 e1 n1 z => by
  cases x with
  | b _ => exact z.elim
  | d x =>
    cases x <;> try exact z.elim
    exact ⟨_, n1, k (.d (.bl _)) _ H1 M1 w1 e1 rfl z⟩⟩
def dIf (c : TDT) (a b : TDE) : TDE := fun δ Q => c δ fun k => (k = true → a δ Q) ∧ (k = false → b δ Q)
theorem se_if {tc : TT} {c : TDT} {t u : TE} {a b : TDE} (hc : ST K κ1 tc c) (ha : SE K κ2 t a) (hb : SE K κ3 u b) : SE K (κ1 + κ2 + κ3) (tIf tc t u) (dIf c a b) := ⟨fun H0 M0 H M σ δ Q Qd r q k => hc.run H0 M0 H M σ δ _ _ r.l.l q fun c H1 M1 w1 e1 z => by
  cases c with
  | true => exact iteT (ha.run H0 M0 H1 M1 σ δ _ _ (r.xl w1 e1 (by omega)) (z.1 rfl) fun b u H2 M2 w2 e2 n2 y => k b u H2 M2 w2 ((e1.trans e2).mono (by omega)) n2 y)
  | false => exact iteF (hb.run H0 M0 H1 M1 σ δ _ _ (r.xl w1 e1 (by omega)) (z.2 rfl) fun b u H2 M2 w2 e2 n2 y => k b u H2 M2 w2 ((e1.trans e2).mono (by omega)) n2 y)⟩
def DX.isN : DX → Bool
  | .d .non => true
  | _ => false
def DX.noraw : DX → Bool
  | .d (.raw _) => false
  | _ => true
theorem isN_of {H0 H : Hp} {M : Mk_} {x : DX} {v : V} (n : Dx K H0 H M x v) (nr : x.noraw = true) : decide (v = .non) = x.isN := by
  cases x with
  | b ds =>
    obtain ⟨a, vs, e, _⟩ := n
    subst e
    rfl
  | d d =>
    cases d with
    | non => have n : v = _ := n; subst n; rfl
    | bl _ => have n : v = _ := n; subst n; rfl
    | int _ => have n : v = _ := n; subst n; rfl
    | str _ => have n : v = _ := n; subst n; rfl
    | raw _ => cases nr
    | scr _ => obtain ⟨a, e, _⟩ := n; subst e; rfl
    | deck => obtain ⟨a, e, _⟩ := n; subst e; rfl
    | tup _ => obtain ⟨a, _, e, _⟩ := n; subst e; rfl
    | lst _ => obtain ⟨a, _, e, _⟩ := n; subst e; rfl
    | ins _ _ => obtain ⟨a, _, _, e, _⟩ := n; subst e; rfl
    | dic _ => obtain ⟨a, _, e, _⟩ := n; subst e; rfl
def dIsN (neg : Bool) (τ : TDE) : TDE := fun δ Q => τ δ fun x => x.noraw = true ∧ Q (.d (.bl (if neg then !x.isN else x.isN)))
theorem se_isN {t : TE} {τ : TDE} (h : SE K κ1 t τ) : SE K κ1 (tIsN t) (dIsN false τ) := ⟨fun H0 M0 H M σ δ Q Qd r q k => h.run H0 M0 H M σ δ _ _ r q fun x v H1 M1 w1 e1 n1 z => by
  show Q (.bl (decide (v = .non))) H1
  rw [isN_of n1 z.1]
  exact k (.d (.bl x.isN)) _ H1 M1 w1 e1 rfl z.2⟩
theorem se_notN {t : TE} {τ : TDE} (h : SE K κ1 t τ) : SE K κ1 (tNotN t) (dIsN true τ) := ⟨fun H0 M0 H M σ δ Q Qd r q k => h.run H0 M0 H M σ δ _ _ r q fun x v H1 M1 w1 e1 n1 z => by
  show Q (.bl (!decide (v = .non))) H1
  rw [isN_of n1 z.1]
  exact k (.d (.bl (!x.isN))) _ H1 M1 w1 e1 rfl z.2⟩
def dChain (ρ ρ' : DX → DX → (DX → Prop) → Prop) (a b c : TDE) : TDE := fun δ Q => a δ fun x => b δ fun y => ρ x y fun z => match z with
  | .d (.bl k) => (k = true → c δ fun w => ρ' y w Q) ∧ (k = false → Q (.d (.bl false)))
  | _ => False
theorem se_chain {r r' : R2} {ρ ρ' : DX → DX → (DX → Prop) → Prop} {ta tb tc : TE} {a b c : TDE} (hr : SR2 K r ρ) (hr' : SR2 K r' ρ') (ha : SE K κ1 ta a) (hb : SE K κ2 tb b) (hc : SE K κ3 tc c) : SE K (κ1 + κ2 + κ3) (tChain r r' ta tb tc) (dChain ρ ρ' a b c) := ⟨fun H0 M0 H M σ δ Q Qd s h k =>
  ha.run H0 M0 H M σ δ _ _ s.l.l h fun x v H1 M1 w1 e1 n1 h1 => hb.run H0 M0 H1 M1 σ δ _ _ (s.l.xe w1 e1) h1 fun y u H2 M2 w2 e2 n2 h2 =>
    hr.run H0 H2 M2 x y v u _ _ w2 (n1.xe w1 e2) n2 h2 fun z w H3 M3 w3 e3 n3 h3 => by
      cases z with
      | b _ => exact h3.elim
      | d z =>
        cases z <;> try exact h3.elim
        rename_i q
        refine ⟨q, n3, ?_⟩
        cases q with
        | false => exact iteF (k (.d (.bl _)) _ H3 M3 w3 (((e1.trans e2).trans e3).mono (by omega)) rfl (h3.2 rfl))
        | true => exact iteT (hc.run H0 M0 H3 M3 σ δ _ _ (s.xe w3 ((e1.trans e2).trans e3)) (h3.1 rfl) fun p g H4 M4 w4 e4 n4 h4 =>
            hr'.run H0 H4 M4 y p u g _ _ w4 (n2.xe w2 (e3.trans e4)) n4 h4 fun z' w' H5 M5 w5 e5 n5 h5 => k z' w' H5 M5 w5 ((((e1.trans e2).trans e3).trans e4).trans e5) n5 h5)⟩
/-! argument lists, displays, fields -/
def dNil : TDA := fun _ Q => Q []
def dCons (a : TDE) (r : TDA) : TDA := fun δ Q => a δ fun x => r δ fun xs => Q (x :: xs)
theorem sa_nil : SA K 0 tNil dNil := ⟨fun H0 M0 H M σ δ Q Qd r q k => k [] [] H M r.wd .refl rfl q⟩
theorem sa_cons {te : TE} {t : TA} {a : TDE} {r : TDA} (ha : SE K κ1 te a) (hr : SA K κ2 t r) : SA K (κ1 + κ2) (tCons te t) (dCons a r) := ⟨fun H0 M0 H M σ δ Q Qd s q k =>
  ha.run H0 M0 H M σ δ _ _ s.l q fun x v H1 M1 w1 e1 n1 h1 => hr.run H0 M0 H1 M1 σ δ _ _ (s.xe w1 e1) h1 fun xs vs H2 M2 w2 e2 n2 h2 =>
    k (x :: xs) (v :: vs) H2 M2 w2 (e1.trans e2) ⟨v, vs, rfl, n1.xe w1 e2, n2⟩ h2⟩
def allD : List DX → Option (List D)
  | [] => some []
  | .d x :: r => match allD r with
    | some ds => some (x :: ds)
    | none => none
  | .b _ :: _ => none
theorem allD_is {H0 H : Hp} {M : Mk_} : ∀ {xs : List DX} {ds : List D} {vs : List V}, DxL K H0 H M xs vs → allD xs = some ds → DnL K H M ds vs
  | [], _, _, h, e => by cases e; exact h
  | .b _ :: _, _, _, h, e => by cases e
  | .d x :: r, _, _, ⟨u, us, e1, h, k⟩, e => by
    unfold allD at e
    cases q : allD r with
    | none => rw [q] at e; cases e
    | some ds =>
      rw [q] at e
      cases e
      exact ⟨u, us, e1, h, allD_is k q⟩
def dAll (r : TDA) : TDF := fun δ Q => r δ fun xs => match allD xs with
  | some ds => ds.length ≤ sizeLine ∧ Q ds
  | none => False
def dTup (r : TDA) : TDE := fun δ Q => dAll r δ fun ds => Q (.d (.tup ds))
theorem se_tup {t : TA} {r : TDA} (h : SA K κ1 t r) : SE K κ1 (tTup t) (dTup r) := ⟨fun H0 M0 H M σ δ Q Qd s q k => h.run H0 M0 H M σ δ _ _ s q fun xs vs H1 M1 w1 e1 n1 z => by
  cases e : allD xs with
  | none => simp only [e] at z
  | some ds =>
    simp only [e] at z
    have n := allD_is n1 e
    refine ⟨by rw [n.len]; exact z.1, fun p hp => k (.d (.tup ds)) _ _ M1 (new_wd hp w1) (e1.trans (new_xe hp w1)) ⟨p, vs, rfl, upd_same, DnL.xt w1 (new_xe hp w1).toXT _ _ n⟩ z.2⟩⟩
theorem sf_lst {t : TA} {r : TDA} (h : SA K κ1 t r) : SF K κ1 (tLst t) (dAll r) := ⟨fun H0 M0 H M σ δ Q Qd s q k => h.run H0 M0 H M σ δ _ _ s q fun xs vs H1 M1 w1 e1 n1 z => by
  cases e : allD xs with
  | none => simp only [e] at z
  | some ds =>
    simp only [e] at z
    have n := allD_is n1 e
    refine ⟨by rw [n.len]; exact z.1, fun p hp => k ds p vs _ (M1.put p (some false)) (own_wd hp w1) (e1.trans (own_xe false hp w1)) put_same (e1.free s.wd w1 hp) upd_same (DnL.xt w1 (own_xe false hp w1).toXT _ _ n) z.2⟩⟩
def dFz (τ : TDF) : TDE := fun δ Q => τ δ fun ds => Q (.d (.lst ds))
theorem SF.se {t : TE} {τ : TDF} (h : SF K κ1 t τ) : SE K κ1 t (dFz τ) := ⟨fun H0 M0 H M σ δ Q Qd s q k => h.run H0 M0 H M σ δ _ _ s q fun ds a vs H1 M1 w1 e1 m n l kk z =>
  k (.d (.lst ds)) _ H1 (M1.put a none) (frz_wd w1) (frz_xe e1 s.wd m n) ⟨a, vs, rfl, l, put_same, DnL.xt w1 (frz_xt m) _ _ kk⟩ z⟩
def dFld (K' : PySem.W.Frag) (τ : TDE) (f : Str) : TDE := fun δ Q => τ δ fun x => match x with
  | .d (.ins C fs) => Cls K' C ∧ NoAttr K' C f ∧ ∃ d, fs.lookup f = some d ∧ Q (.d d)
  | _ => False
theorem se_fld {K' : PySem.W.Frag} {t : TE} {τ : TDE} {f : Str} (h : SE K κ1 t τ) : SE K κ1 (tFld K' t f) (dFld K' τ f) := ⟨fun H0 M0 H M σ δ Q Qd s q k => h.run H0 M0 H M σ δ _ _ s q fun x v H1 M1 w1 e1 n1 z => by
  cases x with
  | b _ => exact z.elim
  | d x =>
    cases x <;> try exact z.elim
    obtain ⟨c, na, d, lk, z⟩ := z
    obtain ⟨a, dx, ws, rfl, ha, hf⟩ := n1
    obtain ⟨v, lv, nv⟩ := hf.look lk
    exact ⟨a, _, dx, ws, v, rfl, ha, c, na, lv, k (.d d) v H1 M1 w1 e1 nv z⟩⟩
/-! calls -/
def spD (K : PySem.W.Frag) (c : Nat) (π : List D → (D → Prop) → Prop) : Sp := fun vs H Q _ => ∃ (M : Mk_) (ds : List D) (Qd : D → Prop), M.n + c ≤ LIM ∧ Wd H M ∧ DnL K H M ds vs ∧ π ds Qd ∧ ∀ d v H' M', Wd H' M' → XE c H M H' M' → Dn K H' M' d v → Qd d → Q v H'
def dCall (π : List D → (D → Prop) → Prop) (dd : List D) (r : TDA) : TDE := fun δ Q => r δ fun xs => match allD xs with
  | some ds => π (ds ++ dd) fun d => Q (.d d)
  | none => False
theorem se_call {π : List D → (D → Prop) → Prop} {dvs : List V} {dd : List D} {E : XK} {t : TA} {r : TDA} {c : Nat} (h : SA K κ1 t r) (hd : ∀ H M, DnL K H M dd dvs) : SE K (κ1 + c) (tCall (spD K c π) dvs E t) (dCall π dd r) := ⟨fun H0 M0 H M σ δ Q Qd s q k => h.run H0 M0 H M σ δ _ _ s.l q fun xs vs H1 M1 w1 e1 n1 z => by
  cases e : allD xs with
  | none => simp only [e] at z
  | some ds =>
    simp only [e] at z
    exact ⟨M1, ds ++ dd, _, by have := (s.xe w1 e1).cr; have := s.lim; omega, w1, (allD_is n1 e).app (hd _ _), z, fun d v H' M' w' e' n' q' => k (.d d) v H' M' w' (e1.trans e') n' q'⟩⟩
theorem se_callN {π : List D → (D → Prop) → Prop} {E : XK} {t : TA} {r : TDA} {c : Nat} (h : SA K κ1 t r) : SE K (κ1 + c) (tCall (spD K c π) [] E t) (dCall π [] r) := se_call (dd := []) h fun _ _ => rfl
def dCB (ρ : List DX → (DX → Prop) → Prop) (r : TDA) : TDE := fun δ Q => r δ fun xs => ρ xs Q
theorem se_cb {c : List V → Hp → VK → Prop} {ρ : List DX → (DX → Prop) → Prop} {t : TA} {r : TDA} (hc : SC K c ρ) (h : SA K κ1 t r) : SE K κ1 (tCB c t) (dCB ρ r) := ⟨fun H0 M0 H M σ δ Q Qd s q k => h.run H0 M0 H M σ δ _ _ s q fun xs vs H1 M1 w1 e1 n1 z =>
  hc.run H0 H1 M1 xs vs _ _ w1 n1 z fun z w H2 M2 w2 e2 n2 y => k z w H2 M2 w2 (e1.trans e2) n2 y⟩
/-! ### statements -/
def dsNil : TDS := fun D δ => D.nx δ
def dsSeq (t u : TDS) : TDS := fun D δ => t { D with nx := u D } δ
def dsRet (τ : TDE) : TDS := fun D δ => τ δ fun x => D.rt x.get
def dsRetN : TDS := fun D _ => D.rt .non
def dsIf (c : TDT) (t u : TDS) : TDS := fun D δ => c δ fun b => (b = true → t D δ) ∧ (b = false → u D δ)
def dsDrop (τ : TDE) : TDS := fun D δ => τ δ fun _ => D.nx δ
def dsNever : TDS := fun _ _ => False
theorem ss_nil : SS K 0 tNext dsNil := ⟨fun ρ0 H0 M0 H M σ δ D DD r q g => g.nx _ _ _ _ (r.le (by omega)) .refl q⟩
theorem ss_never : SS K 0 tNever dsNever := ⟨fun ρ0 H0 M0 H M σ δ D DD r q g => q.elim⟩
theorem Goes.le {H0 H : Hp} {M0 M : Mk_} {D : Ends} {DD : DEnds} {c c' : Nat} (g : Goes K c H0 M0 H M D DD) (l : c ≤ c') : Goes K c' H0 M0 H M D DD :=
  ⟨fun σ' δ' H' M' r y q => g.nx σ' δ' H' M' (r.le l) y q, fun d v H' M' w b m => g.rt d v H' M' w b (by omega), fun σ' δ' H' M' r y q => g.bk σ' δ' H' M' (r.le l) y q, fun σ' δ' H' M' r y q => g.ct σ' δ' H' M' (r.le l) y q⟩
theorem Goes.xt {H0 H H1 : Hp} {M0 M M1 : Mk_} {D : Ends} {DD : DEnds} {c : Nat} (g : Goes K c H0 M0 H M D DD) (x : XT H M H1 M1) : Goes K c H0 M0 H1 M1 D DD :=
  ⟨fun σ' δ' H' M' r y q => g.nx σ' δ' H' M' r (x.trans y) q, g.rt, fun σ' δ' H' M' r y q => g.bk σ' δ' H' M' r (x.trans y) q, fun σ' δ' H' M' r y q => g.ct σ' δ' H' M' r (x.trans y) q⟩
theorem ss_seq {t u : TS} {a b : TDS} (ha : SS K κ1 t a) (hb : SS K κ2 u b) : SS K (κ1 + κ2) (tSeq t u) (dsSeq a b) := ⟨fun ρ0 H0 M0 H M σ δ D DD r q g =>
  ha.run (κ2 + ρ0) H0 M0 H M σ δ _ _ (r.le (by omega)) q ⟨fun σ' δ' H' M' r' x q' => hb.run ρ0 H0 M0 H' M' σ' δ' D DD r' q' (g.xt x), (g.le (Nat.le_add_left _ _)).rt, (g.le (Nat.le_add_left _ _)).bk, (g.le (Nat.le_add_left _ _)).ct⟩⟩
theorem ss_ret {t : TE} {τ : TDE} (h : SE K κ1 t τ) : SS K κ1 (tRet t) (dsRet τ) := ⟨fun ρ0 H0 M0 H M σ δ D DD r q g => h.run H0 M0 H M σ δ _ _ (r.le (by omega)) q fun x v H' M' w' e n z => by
  cases x with
  | d d => exact g.rt d v H' M' w' (r.base.trans e.toXB) (by have := r.cr; have := e.kn; omega) n z
  | b ds =>
    obtain ⟨a, vs, rfl, m, n0, l, k⟩ := n
    exact g.rt (.lst ds) _ H' (M'.put a none) (frz_wd w') (frz_xb (r.base.trans e.toXB) r.w0 m n0) (by have := r.cr; have := e.kn; show M'.n + ρ0 ≤ _; omega) ⟨a, vs, rfl, l, put_same, DnL.xt w' (frz_xt m) _ _ k⟩ z⟩
theorem ss_retN : SS K 0 tRetN dsRetN := ⟨fun ρ0 H0 M0 H M σ δ D DD r q g => g.rt .non .non H M r.wd r.base (by have := r.cr; omega) rfl q⟩
theorem ss_if {tc : TT} {c : TDT} {t u : TS} {a b : TDS} (hc : ST K κ1 tc c) (ha : SS K κ2 t a) (hb : SS K κ3 u b) : SS K (κ1 + κ2 + κ3) (tIfS tc t u) (dsIf c a b) := ⟨fun ρ0 H0 M0 H M σ δ D DD r q g => hc.run H0 M0 H M σ δ _ _ (r.le (by omega)) q fun c H1 M1 w1 e1 z => by
  cases c with
  | true => exact iteT (ha.run ρ0 H0 M0 H1 M1 σ δ D DD (r.xl w1 e1 (by omega)) (z.1 rfl) (g.xt e1.toXT))
  | false => exact iteF (hb.run ρ0 H0 M0 H1 M1 σ δ D DD (r.xl w1 e1 (by omega)) (z.2 rfl) (g.xt e1.toXT))⟩
theorem ss_drop {t : TE} {τ : TDE} (h : SE K κ1 t τ) : SS K κ1 (tDrop t) (dsDrop τ) := ⟨fun ρ0 H0 M0 H M σ δ D DD r q g => h.run H0 M0 H M σ δ _ _ (r.le (by omega)) q fun x v H' M' w' e n z => g.nx _ _ _ _ (r.xl w' e (by omega)) e.toXT z⟩
/-! targets -/
def γName (i : Nat) : DX → Den → (Den → Prop) → Prop := fun x δ Q => match x with
  | .d d => Q (δ.set i (.dat d))
  | _ => False
theorem wipe_set {i : Nat} {x : Option V} : ∀ {vs : List Nat} {σ : L2.St}, i ∈ vs → wipe (σ.set i x) vs = wipe σ vs
  | v :: vs, σ, h => by
    unfold wipe
    by_cases e : i ∈ vs
    · rw [wipe_set e]
    · have ei : i = v := by rcases List.mem_cons.mp h with h | h <;> first | exact h | exact absurd h e
      subst ei
      clear h
      have : ∀ (us : List Nat) (τ : L2.St), i ∉ us → wipe (τ.set i x) us = (wipe τ us).set i x := by
        intro us
        induction us with
        | nil => intro τ _; rfl
        | cons u us ih =>
          intro τ hn
          unfold wipe
          have h1 : i ≠ u := fun z => hn (by rw [z]; exact List.mem_cons_self)
          rw [ih τ fun z => hn (List.mem_cons_of_mem _ z), List.set_comm _ _ h1]
      rw [this vs σ e, List.set_set]
theorem sg_name (i : Nat) : SG K (gName i) (γName i) [i] := ⟨fun ρ0 H0 M0 H M σ δ x v Q Qd r n h k => by
  cases x with
  | b _ => exact h.elim
  | d d => exact k _ _ (r.set n i) (fun vs hv => wipe_set (hv i List.mem_cons_self)) h⟩
def γNil : List D → Den → (Den → Prop) → Prop := fun xs δ Q => xs = [] ∧ Q δ
def γCons (t : DX → Den → (Den → Prop) → Prop) (u : List D → Den → (Den → Prop) → Prop) : List D → Den → (Den → Prop) → Prop := fun xs δ Q => match xs with
  | x :: r => t (.d x) δ fun δ' => u r δ' Q
  | [] => False
theorem sgs_nil : SGs K gNil γNil [] := ⟨fun ρ0 H0 M0 H M σ δ xs vs Q Qd r n h k => by
  obtain ⟨rfl, h⟩ := h
  have n : vs = [] := n
  exact ⟨n, k σ δ r (fun _ _ => rfl) h⟩⟩
theorem sgs_cons {t : TG} {u : TGs} {g : DX → Den → (Den → Prop) → Prop} {gs : List D → Den → (Den → Prop) → Prop} {is js : List Nat} (h1 : SG K t g is) (h2 : SGs K u gs js) : SGs K (gCons t u) (γCons g gs) (is ++ js) := ⟨fun ρ0 H0 M0 H M σ δ xs vs Q Qd r n h k => by
  cases xs with
  | nil => exact h.elim
  | cons x xs =>
    obtain ⟨v, ws, rfl, n1, n2⟩ := n
    refine ⟨v, ws, rfl, h1.run ρ0 H0 M0 H M σ δ (.d x) v _ _ r n1 h fun σ1 δ1 r1 w1 q1 => h2.run ρ0 H0 M0 H M σ1 δ1 xs ws _ _ r1 n2 q1 fun σ2 δ2 r2 w2 q2 => k σ2 δ2 r2 (fun us hu => ?_) q2⟩
    rw [w2 us fun i hi => hu i (List.mem_append_right _ hi), w1 us fun i hi => hu i (List.mem_append_left _ hi)]⟩
def γTup (n : Nat) (gs : List D → Den → (Den → Prop) → Prop) : DX → Den → (Den → Prop) → Prop := fun x δ Q => match x with
  | .d (.tup ds) => ds.length = n ∧ gs ds δ Q
  | _ => False
theorem sg_tup {n : Nat} {u : TGs} {gs : List D → Den → (Den → Prop) → Prop} {is : List Nat} (h : SGs K u gs is) : SG K (gTup K n u) (γTup n gs) is := ⟨fun ρ0 H0 M0 H M σ δ x v Q Qd r nn q k => by
  cases x with
  | b _ => exact q.elim
  | d d =>
    cases d <;> try exact q.elim
    obtain ⟨a, vs, rfl, sq, nl⟩ := nn
    exact ⟨a, vs, rfl, .inl (.of sq), by rw [nl.len]; exact q.1, h.run ρ0 H0 M0 H M σ δ _ vs Q Qd r nl q.2 k⟩⟩
def dsAsg (τ : TDE) (γ : DX → Den → (Den → Prop) → Prop) : TDS := fun D δ => τ δ fun x => γ x δ D.nx
theorem ss_asg {t : TE} {τ : TDE} {g : TG} {γ : DX → Den → (Den → Prop) → Prop} {is : List Nat} (h : SE K κ1 t τ) (hg : SG K g γ is) : SS K κ1 (tAsg t g) (dsAsg τ γ) := ⟨fun ρ0 H0 M0 H M σ δ D DD r q k => h.run H0 M0 H M σ δ _ _ (r.le (by omega)) q fun x v H' M' w' e n z =>
  hg.run ρ0 H0 M0 H' M' σ δ x v _ _ (r.xl w' e (by omega)) n z fun σ' δ' r' _ q' => k.nx _ _ _ _ r' e.toXT q'⟩
theorem ss_set {t : TE} {τ : TDE} (i : Nat) (h : SE K κ1 t τ) : SS K κ1 (tAsg t (gName i)) (dsAsg τ (γName i)) := ss_asg h (sg_name i)
def dsOwn (τ : TDF) (i : Nat) : TDS := fun D δ => τ δ fun ds => D.nx (δ.set i (.own ds))
theorem ss_own {t : TE} {τ : TDF} (i : Nat) (h : SF K κ1 t τ) : SS K κ1 (tAsg t (gName i)) (dsOwn τ i) := ⟨fun ρ0 H0 M0 H M σ δ D DD r q k => h.run H0 M0 H M σ δ _ _ (r.le (by omega)) q fun ds a vs H' M' w' e m n l kk z =>
  k.nx _ _ _ _ ((r.xl w' e (by omega)).setOwn m (r.old n) l kk i fun j x hj _ => r.newOwn n j x hj) e.toXT z⟩
/-- append to the list in slot i -/
def dsApp (i : Nat) (τ : TDE) : TDS := fun D δ => match (δ[i]? : Option DV) with
  | some (.own ds) => τ δ fun x => match x with
    | .d y => ds.length < sizeLine ∧ D.nx (δ.set i (.own (ds ++ [y])))
    | _ => False
  | _ => False
theorem ss_app {K' : PySem.W.Frag} {t : TE} {τ : TDE} (i : Nat) (h : SE K κ1 t τ) : SS K κ1 (tDrop (tBM K' "list" rAppend (tVar i) (tCons t tNil))) (dsApp i τ) := ⟨fun ρ0 H0 M0 H M σ δ D DD r q k => by
  unfold dsApp at q
  cases e : (δ[i]? : Option DV) with
  | none => rw [e] at q; exact q.elim
  | some z =>
    rw [e] at q
    cases z with
    | un => exact q.elim
    | dat d => exact q.elim
    | own ds =>
      obtain ⟨a, vs, s, m, n0, l, nl⟩ := r.own i ds e
      refine ⟨.ref a, s, .inl ⟨rfl, vs, .inl (.of l)⟩, h.run H0 M0 H M σ δ _ _ (r.le (by omega)) q fun x v H' M' w' x' n z => ?_⟩
      cases x with
      | b _ => exact z.elim
      | d y =>
        have l' : H' a = some (.lst vs) := (x'.k2 a m).2.trans l
        refine ⟨a, vs, v, rfl, rfl, l', by rw [nl.len]; exact z.1, ?_⟩
        exact k.nx _ _ _ _ ((r.xl w' x' (by omega)).write e s ((DnL.xt r.wd x'.toXT _ _ nl).app (es := [y]) (us := [v]) ⟨v, [], rfl, n, rfl⟩)) (x'.toXT.trans (wr_xt (x'.k2 a m).1)) z.2⟩
/-- the list in slot i stands still from here on -/
def dsFrz (i : Nat) (τ : TDS) : TDS := fun D δ => match (δ[i]? : Option DV) with
  | some (.own ds) => τ D (δ.set i (.dat (.lst ds)))
  | _ => False
theorem ss_frz {t : TS} {τ : TDS} (i : Nat) (h : SS K κ1 t τ) : SS K κ1 t (dsFrz i τ) := ⟨fun ρ0 H0 M0 H M σ δ D DD r q k => by
  unfold dsFrz at q
  cases e : (δ[i]? : Option DV) with
  | none => rw [e] at q; exact q.elim
  | some z =>
    rw [e] at q
    cases z with
    | un => exact q.elim
    | dat d => exact q.elim
    | own ds =>
      obtain ⟨M', r', x⟩ := r.frz e
      exact h.run ρ0 H0 M0 H M' σ _ D DD r' q (k.xt x)⟩
/-- xs[i] = e of an own list -/
def dsPut (i : Nat) (τ κ : TDE) : TDS := fun D δ => τ δ fun x => match (δ[i]? : Option DV) with
  | some (.own ds) => κ δ fun k => match k with
    | .d (.int k) => match x with
      | .d y => ∃ j, ixN ds.length k = some j ∧ D.nx (δ.set i (.own (ds.set j y)))
      | _ => False
    | _ => False
  | _ => False
theorem ss_put {t tk : TE} {τ κ : TDE} (i : Nat) (h : SE K κ1 t τ) (hk : SE K κ2 tk κ) : SS K (κ1 + κ2) (tAsg t (gSub (tVar i) tk rSetL)) (dsPut i τ κ) := ⟨fun ρ0 H0 M0 H M σ δ D DD r q k => h.run H0 M0 H M σ δ _ _ (r.le (by omega)) q fun x v H1 M1 w1 e1 n1 q => by
  cases e : (δ[i]? : Option DV) with
  | none => simp only [e] at q
  | some z =>
    simp only [e] at q
    cases z with
    | un => exact q.elim
    | dat d => exact q.elim
    | own ds =>
      have r1 : RS K (κ2 + ρ0) H0 M0 H1 M1 σ δ := r.xl w1 e1 (by omega)
      obtain ⟨a, vs, s, m, n0, l, nl⟩ := r1.own i ds e
      refine ⟨.ref a, s, hk.run H0 M0 H1 M1 σ δ _ _ r1.l q fun y u H2 M2 w2 e2 n2 q => ?_⟩
      cases y with
      | b _ => exact q.elim
      | d y =>
        cases y <;> try exact q.elim
        cases x with
        | b _ => exact q.elim
        | d x =>
          obtain ⟨j, hj, q⟩ := q
          have l' : H2 a = some (.lst vs) := (e2.k2 a m).2.trans l
          have n2 : u = _ := n2
          refine ⟨a, vs, _, j, rfl, n2, l', by rw [nl.len]; exact hj, ?_⟩
          exact k.nx _ _ _ _ ((r1.xe w2 e2).write e s ((DnL.xt w1 e2.toXT _ _ nl).set (Dn.xt w1 e2.toXT _ _ n1) j)) ((e1.trans e2).toXT.trans (wr_xt (e2.k2 a m).1)) q⟩
end
end K
namespace K
open PySem L2 Rp
variable [TabT]
section
variable {K : PySem.W.Frag}
/-! ### loops -/
def dsFor (ω : TDF) (γ : DX → Den → (Den → Prop) → Prop) (τ : TDS) : TDS := fun DD δ => ω δ fun ds => ds.length ≤ sizeLine ∧ ∃ I : Nat → Den → Prop, I 0 δ ∧
  (∀ (i : Nat) (d : D) δ', ds[i]? = some d → I i δ' → γ (.d d) δ' fun δ2 => τ { DD with nx := I (i + 1), ct := I (i + 1), bk := DD.nx } δ2) ∧ ∀ δ', I ds.length δ' → DD.nx δ'
theorem ss_for {wi : TI} {ω : TDF} {g : TG} {γ : DX → Den → (Den → Prop) → Prop} {is : List Nat} {tb : TS} {τ : TDS} (hi : SI K κ1 wi ω) (hg : SG K g γ is) (hb : SS K κ2 tb τ) : SS K (κ1 + sizeLine * κ2) (tFor wi g tb) (dsFor ω γ τ) := ⟨fun ρ0 H0 M0 H M σ δ D DD r q k =>
  hi.run H0 M0 H M σ δ _ _ (r.le (by omega)) q fun J ds H1 M1 w1 e1 wk ⟨lz, I, i0, step, fin⟩ => by
    have hz : ds.length * κ2 ≤ sizeLine * κ2 := Nat.mul_le_mul_right _ lz
    refine ⟨fun i m σ' H' => m + i = ds.length ∧ ∃ M' δ', RS K (m * κ2 + ρ0) H0 M0 H' M' σ' δ' ∧ XT H1 M1 H' M' ∧ I i δ', ⟨ds.length, rfl, M1, δ, r.xl w1 e1 (by omega), .refl, i0⟩, ?_⟩
    rintro i m σ2 H2 ⟨em, M2, δ2, r2, x2, ii⟩
    cases m with
    | zero =>
      have e : i = ds.length := by omega
      subst e
      exact .inl ⟨wk.stop H2 M2 r2.wd x2, k.nx _ _ _ _ (r2.le (by omega)) (e1.toXT.trans x2) (fin δ2 ii)⟩
    | succ m =>
      have hi : i < ds.length := by omega
      have hs : (m + 1) * κ2 = m * κ2 + κ2 := Nat.succ_mul m κ2
      obtain ⟨gg, yy⟩ := wk.item i ds[i] H2 M2 (List.getElem?_eq_getElem hi) r2.wd x2
      refine .inr ⟨gg, fun σ' H' => ∃ M' δ', RS K (m * κ2 + ρ0) H0 M0 H' M' σ' δ' ∧ XT H1 M1 H' M' ∧ I (i + 1) δ', fun σ' H' ⟨M', δ', a, b, c⟩ => ⟨m, Nat.lt_succ_self m, by omega, M', δ', a, b, c⟩, fun x H3 y => ?_⟩
      obtain ⟨M3, w3, e3, n3⟩ := yy x H3 y
      refine hg.run (κ2 + (m * κ2 + ρ0)) H0 M0 H3 M3 σ2 δ2 (.d ds[i]) x _ _ (r2.xl w3 e3 (by omega)) n3 (step i _ δ2 (List.getElem?_eq_getElem hi) ii) fun σ4 δ4 r4 _ q4 => ?_
      refine hb.run (m * κ2 + ρ0) H0 M0 H3 M3 σ4 δ4 _ _ r4 q4 ⟨fun σ' δ' H' M' r' x' z => ⟨M', δ', r', (x2.trans e3.toXT).trans x', z⟩, (k.le (Nat.le_add_left _ _)).rt, fun σ' δ' H' M' r' x' z => k.nx _ _ _ _ (r'.le (by omega)) (((e1.toXT.trans x2).trans e3.toXT).trans x') z, fun σ' δ' H' M' r' x' z => ⟨M', δ', r', (x2.trans e3.toXT).trans x', z⟩⟩⟩
def dsWhile (c : TDT) (τ : TDS) : TDS := fun DD δ => ∃ I : Nat → Den → Prop, (∃ m, I m δ) ∧ ∀ m δ', I m δ' → c δ' fun b =>
  (b = true → τ { DD with nx := fun δ2 => ∃ m', m' < m ∧ I m' δ2, ct := fun δ2 => ∃ m', m' < m ∧ I m' δ2, bk := DD.nx } δ') ∧ (b = false → DD.nx δ')
theorem ss_while {tc : TT} {c : TDT} {tb : TS} {τ : TDS} (hc : ST K 0 tc c) (hb : SS K 0 tb τ) : SS K 0 (tWhile tc tb) (dsWhile c τ) := ⟨fun ρ0 H0 M0 H M σ δ D DD r q k => by
  obtain ⟨I, ⟨m0, i0⟩, turn⟩ := q
  refine ⟨fun m σ' H' => ∃ M' δ', RS K ρ0 H0 M0 H' M' σ' δ' ∧ XT H M H' M' ∧ I m δ', ⟨m0, M, δ, r.le (by omega), .refl, i0⟩, ?_⟩
  rintro m σ2 H2 ⟨M2, δ2, r2, x2, ii⟩
  refine hc.run H0 M0 H2 M2 σ2 δ2 _ _ (r2.le (by omega)) (turn m δ2 ii) fun b H3 M3 w3 e3 z => ?_
  cases b with
  | false => exact iteF (k.nx _ _ _ _ (r2.xl w3 e3 (by omega)) (x2.trans e3.toXT) (z.2 rfl))
  | true =>
    refine iteT ⟨fun σ' H' => ∃ m', m' < m ∧ ∃ M' δ', RS K ρ0 H0 M0 H' M' σ' δ' ∧ XT H M H' M' ∧ I m' δ', fun σ' H' ⟨m', l, h⟩ => ⟨m', l, h⟩, ?_⟩
    refine hb.run ρ0 H0 M0 H3 M3 σ2 δ2 _ _ (r2.xl w3 e3 (by omega)) (z.1 rfl) ⟨fun σ' δ' H' M' r' x' ⟨m', l, h⟩ => ⟨m', l, M', δ', r', (x2.trans e3.toXT).trans x', h⟩, k.rt, fun σ' δ' H' M' r' x' z => k.nx _ _ _ _ r' ((x2.trans e3.toXT).trans x') z, fun σ' δ' H' M' r' x' ⟨m', l, h⟩ => ⟨m', l, M', δ', r', (x2.trans e3.toXT).trans x', h⟩⟩⟩
/-! ### comprehensions -/
def dwipe (δ : Den) : List Nat → Den
  | [] => δ
  | v :: vs => (dwipe δ vs).set v .un
theorem RS.un {H0 H : Hp} {M0 M : Mk_} {σ : L2.St} {δ : Den} {c0 : Nat} (r : RS K c0 H0 M0 H M σ δ) (i : Nat) : RS K c0 H0 M0 H M (σ.set i none) (δ.set i .un) := by
  have g : ∀ (j : Nat) (x : DV), x ≠ .un → (δ.set i .un)[j]? = some x → j ≠ i ∧ δ[j]? = some x := fun j x hx e => by
    rw [List.getElem?_set] at e
    by_cases z : i = j
    · rw [if_pos z] at e
      split at e
      · exact absurd (Option.some.inj e).symm hx
      · cases e
    · rw [if_neg z] at e
      exact ⟨Ne.symm z, e⟩
  have s : ∀ j : Nat, j ≠ i → (σ.set i none)[j]? = σ[j]? := fun j z => by rw [List.getElem?_set, if_neg (Ne.symm z)]
  refine ⟨r.w0, r.wd, r.base, r.cr, r.lim, by rw [List.length_set, List.length_set]; exact r.len, fun j c e => ?_, fun j x e => ?_, fun j k x y a e1 e2 e3 e4 => ?_⟩
  · obtain ⟨z, e⟩ := g j (.dat c) (by intro z; cases z) e
    rw [s j z]
    exact r.dat j c e
  · obtain ⟨z, e⟩ := g j (.own x) (by intro z; cases z) e
    rw [s j z]
    exact r.own j x e
  · obtain ⟨z1, e1⟩ := g j (.own x) (by intro z; cases z) e1
    obtain ⟨z2, e2⟩ := g k (.own y) (by intro z; cases z) e2
    rw [s j z1] at e3
    rw [s k z2] at e4
    exact r.uniq j k x y a e1 e2 e3 e4
theorem RS.wipe {H0 H : Hp} {M0 M : Mk_} {σ : L2.St} {δ : Den} {c0 : Nat} (r : RS K c0 H0 M0 H M σ δ) : ∀ vs : List Nat, RS K c0 H0 M0 H M (wipe σ vs) (dwipe δ vs)
  | [] => r
  | v :: vs => (r.wipe vs).un v
theorem wipe_wipe {vs : List Nat} {σ : L2.St} : wipe (wipe σ vs) vs = wipe σ vs := by
  have h : ∀ (us : List Nat), (∀ i ∈ us, i ∈ vs) → wipe (wipe σ us) vs = wipe σ vs := by
    intro us
    induction us with
    | nil => intro _; rfl
    | cons u us ih =>
      intro hu
      show wipe ((wipe σ us).set u none) vs = _
      rw [wipe_set (hu u List.mem_cons_self), ih fun i hi => hu i (List.mem_cons_of_mem _ hi)]
  exact h vs fun _ h => h
def dYes : TDT := fun _ Q => Q true
theorem st_yes : ST K 0 tYes dYes := ⟨fun H0 M0 H M σ δ Q Qd r q k => k true H M r.wd .refl q⟩
/-- a turn: P (some y) where y is kept, P none where nothing is -/
def stp (γ : DX → Den → (Den → Prop) → Prop) (c : TDT) (τ : TDE) (vs : List Nat) (δ : Den) (d : D) (P : Option D → Prop) : Prop := γ (.d d) (dwipe δ vs) fun δ2 => c δ2 fun b => (b = true → τ δ2 fun y => match y with
    | .d y => P (some y)
    | _ => False) ∧ (b = false → P none)
/-- walked while no own list changes -/
structure WalksB (K : PySem.W.Frag) (J : It) (ds : List D) (H : Hp) (M : Mk_) : Prop where
  item : ∀ (i : Nat) (d : D) H1 M1, ds[i]? = some d → Wd H1 M1 → XB H M H1 M1 → J.go i H1 ∧ ∀ x H2, J.yld i H1 x H2 → ∃ M2, Wd H2 M2 ∧ XE 0 H1 M1 H2 M2 ∧ Dn K H2 M2 d x
  stop : ∀ H1 M1, Wd H1 M1 → XB H M H1 M1 → J.stop ds.length H1
structure SIB (K : PySem.W.Frag) (c : Nat) (wi : TI) (ω : TDF) : Prop where
  run : ∀ H0 M0 H M σ δ (R : It → Hp → Prop) (Rd : List D → Prop), RS K c H0 M0 H M σ δ → ω δ Rd → (∀ J ds H' M', Wd H' M' → XE c H M H' M' → WalksB K J ds H' M' → Rd ds → R J H') → wi σ H R
theorem SI.toB {c : Nat} {wi : TI} {ω : TDF} (h : SI K c wi ω) : SIB K c wi ω := ⟨fun H0 M0 H M σ δ R Rd r q k => h.run H0 M0 H M σ δ R Rd r q fun J ds H' M' w e wk z => k J ds H' M' w e ⟨fun i d H1 M1 e w1 x => wk.item i d H1 M1 e w1 x.toXT, fun H1 M1 w1 x => wk.stop H1 M1 w1 x.toXT⟩ z⟩
theorem lc_in {J : It} {ds : List D} {H0 H1 : Hp} {M0 M1 : Mk_} {σ : L2.St} {δ : Den} {g : TG} {γ : DX → Den → (Den → Prop) → Prop} {is vs : List Nat} {tt : TT} {c : TDT} {te : TE} {τ : TDE} {Q : VK} (wk : WalksB K J ds H1 M1) (r1 : RS K (ds.length * (κ1 + κ2)) H0 M0 H1 M1 σ δ) (hg : SG K g γ is) (hs : ∀ i ∈ is, i ∈ vs) (hc : ST K κ1 tt c) (he : SE K κ2 te τ)
    (I : Nat → List D → Prop) (i0 : I 0 []) (step : ∀ (i : Nat) (d : D) acc, ds[i]? = some d → I i acc → stp γ c τ vs δ d fun o => match o with
      | some y => acc.length < sizeLine ∧ I (i + 1) (acc ++ [y])
      | none => I (i + 1) acc) {A : Addr} (hA : H1 A = none)
    (k : ∀ acc us H' M', Wd H' M' → XE (ds.length * (κ1 + κ2)) H1 M1 H' M' → M' A = some false → H' A = some (.lst us) → DnL K H' M' acc us → I ds.length acc → Q (.ref A) H') :
    ∃ W : Nat → Nat → Hp → Prop, (∃ m, W 0 m (upd H1 A (.lst []))) ∧ ∀ i m H, W i m H →
  (J.stop i H ∧ Q (.ref A) H) ∨ (J.go i H ∧ ∃ Nx : Hp → Prop, (∀ H', Nx H' → ∃ m', m' < m ∧ W (i + 1) m' H') ∧ ∀ x H', J.yld i H x H' → g x (wipe σ vs) H' fun σ2 H2 => wipe σ2 vs = wipe σ vs ∧ tt σ2 H2 fun b H3 =>
    if b = true then te σ2 H3 fun y H4 => ∃ acc, H4 A = some (.lst acc) ∧ acc.length < sizeLine ∧ Nx (upd H4 A (.lst (acc ++ [y]))) else Nx H3) := by
    have w1 := r1.wd
    refine ⟨fun i m H' => m + i = ds.length ∧ ∃ M' acc us, Wd H' M' ∧ XE (i * (κ1 + κ2)) H1 M1 H' M' ∧ M' A = some false ∧ H' A = some (.lst us) ∧ DnL K H' M' acc us ∧ I i acc,
      ⟨ds.length, rfl, M1.put A (some false), [], [], own_wd hA w1, (own_xe false hA w1).mono (Nat.zero_le _), put_same, upd_same, rfl, i0⟩, ?_⟩
    rintro i m H2 ⟨em, M2, acc, us, w2, e2, mA, hAl, nl, ii⟩
    cases m with
    | zero =>
      have e : i = ds.length := by omega
      subst e
      exact .inl ⟨wk.stop H2 M2 w2 e2.toXB, k acc us H2 M2 w2 e2 mA hAl nl ii⟩
    | succ m =>
      have hi : i < ds.length := by omega
      have hq : (i + 1) * (κ1 + κ2) = i * (κ1 + κ2) + (κ1 + κ2) := Nat.succ_mul i _
      have hz : (i + 1) * (κ1 + κ2) ≤ ds.length * (κ1 + κ2) := Nat.mul_le_mul_right _ hi
      obtain ⟨gg, yy⟩ := wk.item i ds[i] H2 M2 (List.getElem?_eq_getElem hi) w2 e2.toXB
      refine .inr ⟨gg, fun H' => ∃ M' acc us, Wd H' M' ∧ XE ((i + 1) * (κ1 + κ2)) H1 M1 H' M' ∧ M' A = some false ∧ H' A = some (.lst us) ∧ DnL K H' M' acc us ∧ I (i + 1) acc, fun H' h => ⟨m, Nat.lt_succ_self m, by omega, h⟩, fun x H3 y => ?_⟩
      obtain ⟨M3, w3, e3, n3⟩ := yy x H3 y
      have r3 : RS K (κ1 + κ2) H0 M0 H3 M3 _ _ := (r1.xl w3 (e2.trans e3) (by omega)).wipe vs
      refine hg.run (κ1 + κ2) H0 M0 H3 M3 _ _ (.d ds[i]) x _ _ r3 n3 (step i _ acc (List.getElem?_eq_getElem hi) ii) fun σ4 δ4 r4 wp q4 => ?_
      refine ⟨by rw [wp vs hs, wipe_wipe], hc.run H0 M0 H3 M3 σ4 δ4 _ _ r4.l q4 fun b H5 M5 w5 e5 z => ?_⟩
      cases b with
      | false => exact iteF ⟨M5, acc, us, w5, ((e2.trans e3).trans e5).mono (by omega), (e5.k2 A (e3.k2 A mA).1).1, ((e5.k2 A (e3.k2 A mA).1).2.trans (e3.k2 A mA).2).trans hAl, DnL.xt w3 e5.toXT _ _ (DnL.xt w2 e3.toXT _ _ nl), z.2 rfl⟩
      | true =>
        refine iteT (he.run H0 M0 H5 M5 σ4 δ4 _ _ (r4.xe w5 e5) (z.1 rfl) fun y v H6 M6 w6 e6 n6 z6 => ?_)
        cases y with
        | b _ => exact z6.elim
        | d y =>
          have f := (e3.trans e5).trans e6
          have l6 : H6 A = some (.lst us) := (f.k2 A mA).2.trans hAl
          have nl6 := DnL.xt w2 f.toXT _ _ nl
          have m6 := (f.k2 A mA).1
          refine ⟨us, l6, by rw [nl6.len]; exact z6.1, M6, acc ++ [y], us ++ [v], wr_wd w6 m6, (wr_xe (e2.trans f) w1 m6 hA).mono (by omega), m6, upd_same, DnL.xt w6 (wr_xt m6) _ _ (nl6.app ⟨v, [], rfl, n6, rfl⟩), z6.2⟩
def dLcI (ω : TDF) (γ : DX → Den → (Den → Prop) → Prop) (c : TDT) (τ : TDE) (vs : List Nat) : TDF := fun δ Q => ω δ fun ds => ds.length ≤ sizeLine ∧ ∃ I : Nat → List D → Prop, I 0 [] ∧ (∀ (i : Nat) (d : D) acc, ds[i]? = some d → I i acc → stp γ c τ vs δ d fun o => match o with
      | some y => acc.length < sizeLine ∧ I (i + 1) (acc ++ [y])
      | none => I (i + 1) acc) ∧ ∀ acc, I ds.length acc → Q acc
theorem sf_lcX {wi : TI} {ω : TDF} {g : TG} {γ : DX → Den → (Den → Prop) → Prop} {is vs : List Nat} {tt : TT} {c : TDT} {te : TE} {τ : TDE} (X : List D → (List D → Prop) → Den → Prop) (hi : SIB K κ1 wi ω) (hg : SG K g γ is) (hs : ∀ i ∈ is, i ∈ vs) (hc : ST K κ2 tt c) (he : SE K κ3 te τ)
    (hX : ∀ ds Q δ, X ds Q δ → ds.length ≤ sizeLine ∧ ∃ I : Nat → List D → Prop, I 0 [] ∧ (∀ (i : Nat) (d : D) acc, ds[i]? = some d → I i acc → stp γ c τ vs δ d fun o => match o with
      | some y => acc.length < sizeLine ∧ I (i + 1) (acc ++ [y])
      | none => I (i + 1) acc) ∧ ∀ acc, I ds.length acc → Q acc) : SF K (κ1 + sizeLine * (κ2 + κ3)) (tLc wi g tt te vs) (fun δ Q => ω δ fun ds => X ds Q δ) := ⟨fun H0 M0 H M σ δ Q Qd r q k =>
  hi.run H0 M0 H M σ δ _ _ (r.le (by omega)) q fun J ds H1 M1 w1 e1 wk x A hA => by
    obtain ⟨lz, I, i0, st, fin⟩ := hX ds Qd δ x
    have hz : ds.length * (κ2 + κ3) ≤ sizeLine * (κ2 + κ3) := Nat.mul_le_mul_right _ lz
    exact lc_in wk (r.xl w1 e1 (by omega)) hg hs hc he I i0 st hA fun acc us H' M' w' x' m' l' n' i' => k acc A us H' M' w' ((e1.trans x').mono (by omega)) m' (e1.free r.wd w1 hA) l' n' (fin acc i')⟩
theorem sf_lc {wi : TI} {ω : TDF} {g : TG} {γ : DX → Den → (Den → Prop) → Prop} {is vs : List Nat} {tt : TT} {c : TDT} {te : TE} {τ : TDE} (hi : SIB K κ1 wi ω) (hg : SG K g γ is) (hs : ∀ i ∈ is, i ∈ vs) (hc : ST K κ2 tt c) (he : SE K κ3 te τ) : SF K (κ1 + sizeLine * (κ2 + κ3)) (tLc wi g tt te vs) (dLcI ω γ c τ vs) :=
  sf_lcX (fun ds Q δ => ds.length ≤ sizeLine ∧ ∃ I : Nat → List D → Prop, I 0 [] ∧ (∀ (i : Nat) (d : D) acc, ds[i]? = some d → I i acc → stp γ c τ vs δ d fun o => match o with
      | some y => acc.length < sizeLine ∧ I (i + 1) (acc ++ [y])
      | none => I (i + 1) acc) ∧ ∀ acc, I ds.length acc → Q acc) hi hg hs hc he fun ds Q δ h => h
/-! ### what is walked -/
def dTy (τ : TDE) (f : D → Option (List D)) : TDF := fun δ Q => τ δ fun x => match x with
  | .d d => match f d with
    | some ds => Q ds
    | none => False
  | _ => False
def D.asL : D → Option (List D)
  | .lst ds => some ds
  | _ => none
def D.asT : D → Option (List D)
  | .tup ds => some ds
  | _ => none
theorem asL_is {H : Hp} {M : Mk_} {d : D} {ds : List D} {v : V} (n : Dn K H M d v) (e : d.asL = some ds) : ∃ a vs, v = .ref a ∧ H a = some (.lst vs) ∧ M a = none ∧ DnL K H M ds vs := by
  cases d <;> first | (cases e; exact n) | cases e
theorem asT_is {H : Hp} {M : Mk_} {d : D} {ds : List D} {v : V} (n : Dn K H M d v) (e : d.asT = some ds) : ∃ a vs, v = .ref a ∧ H a = some (.tup vs) ∧ DnL K H M ds vs := by
  cases d <;> first | (cases e; exact n) | cases e
theorem walks_list {H : Hp} {M : Mk_} {a : Addr} {vs : List V} {ds : List D} (w : Wd H M) (l : H a = some (.lst vs)) (m : M a = none) (n : DnL K H M ds vs) : Walks K (Itl K a) ds H M :=
  ⟨fun i d H1 M1 e w1 x => by
    obtain ⟨v, ev, nv⟩ := (DnL.xt w x _ _ n).nth e
    have l1 : SqL K H1 a vs := .inl (.of (x.k0 _ _ l m (fun _ z => nomatch z)).1)
    refine ⟨⟨vs, v, l1, ev⟩, ?_⟩
    rintro y H2 ⟨rfl, hy⟩
    have e1 := hy vs l1
    rw [ev] at e1
    cases e1
    exact ⟨M1, w1, .refl, nv⟩, fun H1 M1 w1 x => ⟨vs, .inl (.of (x.k0 _ _ l m (fun _ z => nomatch z)).1), by rw [n.len]; exact Nat.le_refl _⟩⟩
theorem walks_tup {H : Hp} {M : Mk_} {a : Addr} {vs : List V} {ds : List D} (w : Wd H M) (l : H a = some (.tup vs)) (n : DnL K H M ds vs) : Walks K (Itt K a) ds H M :=
  ⟨fun i d H1 M1 e w1 x => by
    obtain ⟨v, ev, nv⟩ := (DnL.xt w x _ _ n).nth e
    have l1 : SqT K H1 a vs := .inl (.of (x.k0 _ _ l (w.imm l fun _ z => nomatch z) (fun _ z => nomatch z)).1)
    refine ⟨⟨vs, v, l1, ev⟩, ?_⟩
    rintro y H2 ⟨rfl, hy⟩
    have e1 := hy vs l1
    rw [ev] at e1
    cases e1
    exact ⟨M1, w1, .refl, nv⟩, fun H1 M1 w1 x => ⟨vs, .inl (.of (x.k0 _ _ l (w.imm l fun _ z => nomatch z) (fun _ z => nomatch z)).1), by rw [n.len]; exact Nat.le_refl _⟩⟩
theorem si_list {t : TE} {τ : TDE} (h : SE K κ1 t τ) : SI K κ1 (iList K t) (dTy τ D.asL) := ⟨fun H0 M0 H M σ δ R Rd r q k => h.run H0 M0 H M σ δ _ _ r q fun x v H1 M1 w1 e1 n z => by
  cases x with
  | b _ => exact z.elim
  | d d =>
    cases e : d.asL with
    | none => simp only [e] at z
    | some ds =>
      simp only [e] at z
      obtain ⟨a, vs, rfl, l, m, nl⟩ := asL_is n e
      exact ⟨a, rfl, ⟨vs, .inl (.of l)⟩, k _ ds H1 M1 w1 e1 (walks_list w1 l m nl) z⟩⟩
theorem si_tup {t : TE} {τ : TDE} (h : SE K κ1 t τ) : SI K κ1 (iTup K t) (dTy τ D.asT) := ⟨fun H0 M0 H M σ δ R Rd r q k => h.run H0 M0 H M σ δ _ _ r q fun x v H1 M1 w1 e1 n z => by
  cases x with
  | b _ => exact z.elim
  | d d =>
    cases e : d.asT with
    | none => simp only [e] at z
    | some ds =>
      simp only [e] at z
      obtain ⟨a, vs, rfl, l, nl⟩ := asT_is n e
      exact ⟨a, rfl, ⟨vs, .inl (.of l)⟩, k _ ds H1 M1 w1 e1 (walks_tup w1 l nl) z⟩⟩
def rngD (lo : Int) (n : Nat) : List D := (List.range n).map fun i => .int (lo + (i : Nat))
theorem walks_rng {H : Hp} {M : Mk_} {lo : Int} {n : Nat} : Walks K (Itr lo n) (rngD lo n) H M :=
  ⟨fun i d H1 M1 e w1 x => by
    unfold rngD at e
    rw [List.getElem?_map] at e
    by_cases hi : i < n
    · rw [List.getElem?_range hi] at e
      cases e
      refine ⟨hi, ?_⟩
      rintro y H2 ⟨rfl, rfl⟩
      exact ⟨M1, w1, .refl, rfl⟩
    · rw [List.getElem?_eq_none (by rw [List.length_range]; omega)] at e
      exact (nomatch e), fun H1 M1 w1 x => by
    show n ≤ (rngD lo n).length
    unfold rngD
    rw [List.length_map, List.length_range]
    exact Nat.le_refl _⟩
theorem dx1 {H0 H : Hp} {M : Mk_} {x : DX} {vs : List V} (n : DxL K H0 H M [x] vs) : ∃ v, vs = [v] ∧ Dx K H0 H M x v := by
  obtain ⟨v, ws, e, n1, nn⟩ := n
  have nn : ws = [] := nn
  subst e nn
  exact ⟨v, rfl, n1⟩
theorem dx2 {H0 H : Hp} {M : Mk_} {x y : DX} {vs : List V} (n : DxL K H0 H M [x, y] vs) : ∃ v u, vs = [v, u] ∧ Dx K H0 H M x v ∧ Dx K H0 H M y u := by
  obtain ⟨v, ws, e, n1, n2⟩ := n
  obtain ⟨u, e2, n3⟩ := dx1 n2
  subst e e2
  exact ⟨v, u, rfl, n1, n3⟩
theorem DxInt {H0 H : Hp} {M : Mk_} {i : Int} {v : V} (n : Dx K H0 H M (.d (.int i)) v) : v = .int i := n
theorem DxStr {H0 H : Hp} {M : Mk_} {i : Str} {v : V} (n : Dx K H0 H M (.d (.str i)) v) : v = .str i := n
theorem DxBl {H0 H : Hp} {M : Mk_} {i : Bool} {v : V} (n : Dx K H0 H M (.d (.bl i)) v) : v = .bl i := n
def ωRng1 (r : TDA) : TDF := fun δ Q => r δ fun xs => ∃ j : Int, xs = [.d (.int j)] ∧ -(2 ^ 62) ≤ j ∧ j < 2 ^ 62 ∧ Q (rngD 0 j.toNat)
theorem si_rng1 {t : TA} {r : TDA} (h : SA K κ1 t r) : SI K κ1 (iRng1 t) (ωRng1 r) := ⟨fun H0 M0 H M σ δ R Rd s q k => h.run H0 M0 H M σ δ _ _ s q fun xs vs H1 M1 w1 e1 n z => by
  obtain ⟨j, rfl, l1, l2, z⟩ := z
  obtain ⟨v, rfl, n1⟩ := dx1 n
  rw [DxInt n1]
  exact ⟨j, rfl, l1, l2, k _ _ H1 M1 w1 e1 walks_rng z⟩⟩
def ωRng2 (r : TDA) : TDF := fun δ Q => r δ fun xs => ∃ i j : Int, xs = [.d (.int i), .d (.int j)] ∧ (-(2 ^ 62) ≤ i ∧ i < 2 ^ 62 ∧ -(2 ^ 62) ≤ j ∧ j < 2 ^ 62) ∧ Q (rngD i (j - i).toNat)
theorem si_rng2 {t : TA} {r : TDA} (h : SA K κ1 t r) : SI K κ1 (iRng2 t) (ωRng2 r) := ⟨fun H0 M0 H M σ δ R Rd s q k => h.run H0 M0 H M σ δ _ _ s q fun xs vs H1 M1 w1 e1 n z => by
  obtain ⟨i, j, rfl, l, z⟩ := z
  obtain ⟨v, u, rfl, n1, n2⟩ := dx2 n
  rw [DxInt n1, DxInt n2]
  exact ⟨i, j, rfl, l, k _ _ H1 M1 w1 e1 walks_rng z⟩⟩
/-- one argument that is a list -/
def ωL1 (r : TDA) (f : List D → List D) : TDF := fun δ Q => r δ fun xs => ∃ ds, xs = [.d (.lst ds)] ∧ Q (f ds)
def enumD (ds : List D) : List D := (List.zip (List.range ds.length) ds).map fun p => .tup [.int (p.1 : Nat), p.2]
theorem enumD_nth {ds : List D} {i : Nat} {d : D} (h : (enumD ds)[i]? = some d) : ∃ x, ds[i]? = some x ∧ d = .tup [.int (i : Nat), x] := by
  unfold enumD at h
  rw [List.getElem?_map] at h
  cases e : (List.zip (List.range ds.length) ds)[i]? with
  | none => rw [e] at h; cases h
  | some p =>
    rw [e] at h
    have z := List.getElem?_zip_eq_some.mp e
    have hi : i < ds.length := by
      obtain ⟨h, _⟩ := List.getElem?_eq_some_iff.mp z.2
      exact h
    have e1 := z.1
    rw [List.getElem?_range hi] at e1
    have e2 : i = p.1 := Option.some.inj e1
    refine ⟨p.2, z.2, ?_⟩
    have h := (Option.some.inj h).symm
    rw [h, e2]
theorem si_enum {t : TA} {r : TDA} (h : SA K κ1 t r) : SI K κ1 (iEnum K t) (ωL1 r enumD) := ⟨fun H0 M0 H M σ δ R Rd s q k => h.run H0 M0 H M σ δ _ _ s q fun xs vs H1 M1 w1 e1 n z => by
    obtain ⟨ds, rfl, z⟩ := z
    obtain ⟨v, rfl, a, us, rfl, l, m, nl⟩ := dx1 n
    refine ⟨a, us, rfl, .inl (.of l), k _ _ H1 M1 w1 e1 ⟨fun i d H2 M2 e w2 x => ?_, fun H2 M2 w2 x => ⟨us, .inl (.of (x.k0 _ _ l m (fun _ z => nomatch z)).1), ?_⟩⟩ z⟩
    · obtain ⟨y, ey, rfl⟩ := enumD_nth e
      obtain ⟨v, ev, nv⟩ := (DnL.xt w1 x _ _ nl).nth ey
      have l1 : SqL K H2 a us := .inl (.of (x.k0 _ _ l m (fun _ z => nomatch z)).1)
      refine ⟨⟨us, v, l1, ev⟩, ?_⟩
      rintro _ H3 ⟨T, y', rfl, hT, rfl, hy⟩
      have e1 := hy us l1
      rw [ev] at e1
      cases e1
      exact ⟨M2, new_wd hT w2, new_xe hT w2, T, _, rfl, upd_same, _, _, rfl, rfl, _, _, rfl, Dn.xt w2 (new_xe hT w2).toXT _ _ nv, rfl⟩
    · rw [nl.len]
      unfold enumD
      rw [List.length_map, List.length_zip, List.length_range]
      omega⟩
def zipD (xs ys : List D) : List D := (List.zip xs ys).map fun p => .tup [p.1, p.2]
theorem zipD_nth {xs ys : List D} {i : Nat} {d : D} (h : (zipD xs ys)[i]? = some d) : ∃ x y, xs[i]? = some x ∧ ys[i]? = some y ∧ d = .tup [x, y] := by
  unfold zipD at h
  rw [List.getElem?_map] at h
  cases e : (List.zip xs ys)[i]? with
  | none => rw [e] at h; cases h
  | some p =>
    rw [e] at h
    cases h
    have z := List.getElem?_zip_eq_some.mp e
    exact ⟨p.1, p.2, z.1, z.2, rfl⟩
def ωZip (r : TDA) : TDF := fun δ Q => r δ fun as => ∃ xs ys, as = [.d (.lst xs), .d (.lst ys)] ∧ Q (zipD xs ys)
theorem si_zip {t : TA} {r : TDA} (h : SA K κ1 t r) : SI K κ1 (iZip K t) (ωZip r) := ⟨fun H0 M0 H M σ δ R Rd s q k => h.run H0 M0 H M σ δ _ _ s q fun xs vs H1 M1 w1 e1 n z => by
    obtain ⟨xs, ys, rfl, z⟩ := z
    obtain ⟨v, v2, rfl, ⟨a, us, rfl, l, m, nl⟩, a2, us2, rfl, l2, m2, nl2⟩ := dx2 n
    refine ⟨a, a2, us, us2, rfl, .inl (.of l), .inl (.of l2), k _ _ H1 M1 w1 e1 ⟨fun i d H2 M2 e w2 x => ?_, fun H2 M2 w2 x => ⟨us, us2, .inl (.of (x.k0 _ _ l m (fun _ z => nomatch z)).1), .inl (.of (x.k0 _ _ l2 m2 (fun _ z => nomatch z)).1), ?_⟩⟩ z⟩
    · obtain ⟨y, y2, ey, ey2, rfl⟩ := zipD_nth e
      obtain ⟨v, ev, nv⟩ := (DnL.xt w1 x _ _ nl).nth ey
      obtain ⟨v2, ev2, nv2⟩ := (DnL.xt w1 x _ _ nl2).nth ey2
      have l1 : SqL K H2 a us := .inl (.of (x.k0 _ _ l m (fun _ z => nomatch z)).1)
      have l3 : SqL K H2 a2 us2 := .inl (.of (x.k0 _ _ l2 m2 (fun _ z => nomatch z)).1)
      refine ⟨⟨us, us2, v, v2, l1, l3, ev, ev2⟩, ?_⟩
      rintro _ H3 ⟨T, y', y2', rfl, hT, rfl, hy, hy2⟩
      have e1 := hy us l1
      have e2 := hy2 us2 l3
      rw [ev] at e1
      rw [ev2] at e2
      cases e1
      cases e2
      have xx := (new_xe (o := .tup [v, v2]) hT w2).toXT
      exact ⟨M2, new_wd hT w2, new_xe hT w2, T, _, rfl, upd_same, _, _, rfl, Dn.xt w2 xx _ _ nv, _, _, rfl, Dn.xt w2 xx _ _ nv2, rfl⟩
    · rw [nl.len, nl2.len]
      unfold zipD
      rw [List.length_map, List.length_zip]
      omega⟩
/-! ### items, slices, lengths -/
theorem DnL.atI {H : Hp} {M : Mk_} {ds : List D} {vs : List V} {i : Int} {d : D} (n : DnL K H M ds vs) (e : atI ds i = some d) : ∃ v, atI vs i = some v ∧ Dn K H M d v := by
  unfold L2.atI at e ⊢
  rw [n.len]
  cases h : ixN ds.length i with
  | none => rw [h] at e; cases e
  | some j =>
    rw [h] at e
    exact n.nth e
theorem lst_at {H0 H : Hp} {M : Mk_} {x : DX} {v : V} {ds : List D} (n : Dx K H0 H M x v) (e : x.get = .lst ds) : ∃ a vs, v = .ref a ∧ H a = some (.lst vs) ∧ DnL K H M ds vs := by
  cases x with
  | d d =>
    have e : d = .lst ds := e
    subst e
    obtain ⟨a, vs, e, l, _, nl⟩ := n
    exact ⟨a, vs, e, l, nl⟩
  | b xs =>
    cases e
    obtain ⟨a, vs, e, _, _, l, nl⟩ := n
    exact ⟨a, vs, e, l, nl⟩
def ρIxL : DX → DX → (DX → Prop) → Prop := fun x y Q => ∃ ds i d, x.get = .lst ds ∧ y = .d (.int i) ∧ L2.atI ds i = some d ∧ Q (.d d)
theorem sr_ixL : SR2 K (rIxL K) ρIxL := ⟨fun H0 H M x y v u Q Qd w n1 n2 h k => by
  obtain ⟨ds, i, d, ex, rfl, e, q⟩ := h
  obtain ⟨a, vs, rfl, l, nl⟩ := lst_at n1 ex
  obtain ⟨v, ev, nv⟩ := nl.atI e
  exact ⟨a, vs, i, v, rfl, n2, .inl (.of l), ev, k (.d d) v H M w .refl nv q⟩⟩
def ρIxT : DX → DX → (DX → Prop) → Prop := fun x y Q => ∃ ds i d, x = .d (.tup ds) ∧ y = .d (.int i) ∧ L2.atI ds i = some d ∧ Q (.d d)
theorem sr_ixT : SR2 K (rIxT K) ρIxT := ⟨fun H0 H M x y v u Q Qd w n1 n2 h k => by
  obtain ⟨ds, i, d, rfl, rfl, e, q⟩ := h
  obtain ⟨a, vs, rfl, l, nl⟩ := n1
  obtain ⟨v, ev, nv⟩ := nl.atI e
  exact ⟨a, vs, i, v, rfl, n2, .inl (.of l), ev, k (.d d) v H M w .refl nv q⟩⟩
def ρIxS : DX → DX → (DX → Prop) → Prop := fun x y Q => ∃ z i c, x = .d (.str z) ∧ y = .d (.int i) ∧ z.length ≤ sizeLine ∧ L2.atI z.cps.toList i = some c ∧ Q (.d (.str ⟨#[c]⟩))
theorem sr_ixS : SR2 K rIxS ρIxS := ⟨fun H0 H M x y v u Q Qd w n1 n2 h k => by
  obtain ⟨z, i, c, rfl, rfl, lz, e, q⟩ := h
  exact ⟨z, i, c, n1, n2, lz, e, k (.d (.str _)) _ H M w .refl rfl q⟩⟩
structure SO (K : PySem.W.Frag) (c : Nat) (t : TO) (τ : Den → (Option Int → Prop) → Prop) : Prop where
  run : ∀ H0 M0 H M σ δ (Q : Option Int → Hp → Prop) (Qd : Option Int → Prop), RS K c H0 M0 H M σ δ → τ δ Qd → (∀ i H' M', Wd H' M' → XE c H M H' M' → Qd i → Q i H') → t σ H Q
def dNoPart : Den → (Option Int → Prop) → Prop := fun _ Q => Q none
def dPart (τ : TDE) : Den → (Option Int → Prop) → Prop := fun δ Q => τ δ fun x => ∃ i, x = .d (.int i) ∧ Q (some i)
theorem so_none : SO K 0 tNoPart dNoPart := ⟨fun H0 M0 H M σ δ Q Qd r q k => k none H M r.wd .refl q⟩
theorem so_some {t : TE} {τ : TDE} (h : SE K κ1 t τ) : SO K κ1 (tPart t) (dPart τ) := ⟨fun H0 M0 H M σ δ Q Qd r q k => h.run H0 M0 H M σ δ _ _ r q fun x v H1 M1 w1 e1 n z => by
  obtain ⟨i, rfl, z⟩ := z
  exact ⟨i, n, k _ H1 M1 w1 e1 z⟩⟩
def cutD (xs : List D) (lo hi : Option Int) : List D := (xs.drop (HT.sIx xs.length 0 lo)).take (HT.sIx xs.length xs.length hi - HT.sIx xs.length 0 lo)
theorem DnL.cut {H : Hp} {M : Mk_} {ds : List D} {vs : List V} (n : DnL K H M ds vs) (lo hi : Option Int) : DnL K H M (cutD ds lo hi) (cutV vs lo hi) := by
  unfold cutD cutV
  rw [n.len]
  exact (n.drop _).take _
def dSlL (τ : TDE) (lo hi : Den → (Option Int → Prop) → Prop) : TDF := fun δ Q => τ δ fun x => lo δ fun l => hi δ fun u => ∃ ds, x.get = .lst ds ∧ Q (cutD ds l u)
theorem sf_slL {t : TE} {τ : TDE} {tl th : TO} {lo hi : Den → (Option Int → Prop) → Prop} (h : SE K κ1 t τ) (hl : SO K κ2 tl lo) (hh : SO K κ3 th hi) : SF K (κ1 + κ2 + κ3) (tSl (rSlL K) t tl th) (dSlL τ lo hi) := ⟨fun H0 M0 H M σ δ Q Qd r q k =>
  h.run H0 M0 H M σ δ _ _ r.l.l q fun x v H1 M1 w1 e1 n1 q1 => hl.run H0 M0 H1 M1 σ δ _ _ (r.l.xe w1 e1) q1 fun l H2 M2 w2 e2 q2 => hh.run H0 M0 H2 M2 σ δ _ _ (r.xe w2 (e1.trans e2)) q2 fun u H3 M3 w3 e3 z => by
    have n3 := n1.xe w1 (e2.trans e3)
    have e := (e1.trans e2).trans e3
    obtain ⟨ds, ex, z⟩ := z
    obtain ⟨a, vs, rfl, l', nl⟩ := lst_at n3 ex
    exact ⟨a, vs, rfl, .inl (.of l'), fun p hp => k _ p _ _ (M3.put p (some false)) (own_wd hp w3) (e.trans (own_xe false hp w3)) put_same (e.free r.wd w3 hp) upd_same (DnL.xt w3 (own_xe false hp w3).toXT _ _ (nl.cut l u)) z⟩⟩
def dSlS (τ : TDE) (lo hi : Den → (Option Int → Prop) → Prop) : TDE := fun δ Q => τ δ fun x => lo δ fun l => hi δ fun u => ∃ z, x = .d (.str z) ∧ z.length ≤ sizeLine ∧ Q (.d (.str (cutS z l u)))
theorem se_slS {t : TE} {τ : TDE} {tl th : TO} {lo hi : Den → (Option Int → Prop) → Prop} (h : SE K κ1 t τ) (hl : SO K κ2 tl lo) (hh : SO K κ3 th hi) : SE K (κ1 + κ2 + κ3) (tSl rSlS t tl th) (dSlS τ lo hi) := ⟨fun H0 M0 H M σ δ Q Qd r q k =>
  h.run H0 M0 H M σ δ _ _ r.l.l q fun x v H1 M1 w1 e1 n1 q1 => hl.run H0 M0 H1 M1 σ δ _ _ (r.l.xe w1 e1) q1 fun l H2 M2 w2 e2 q2 => hh.run H0 M0 H2 M2 σ δ _ _ (r.xe w2 (e1.trans e2)) q2 fun u H3 M3 w3 e3 z => by
    obtain ⟨s, rfl, lz, z⟩ := z
    exact ⟨s, n1, lz, k (.d (.str _)) _ H3 M3 w3 ((e1.trans e2).trans e3) rfl z⟩⟩
def dSlT (τ : TDE) (lo hi : Den → (Option Int → Prop) → Prop) : TDE := fun δ Q => τ δ fun x => lo δ fun l => hi δ fun u => ∃ ds, x = .d (.tup ds) ∧ Q (.d (.tup (cutD ds l u)))
theorem se_slT {t : TE} {τ : TDE} {tl th : TO} {lo hi : Den → (Option Int → Prop) → Prop} (h : SE K κ1 t τ) (hl : SO K κ2 tl lo) (hh : SO K κ3 th hi) : SE K (κ1 + κ2 + κ3) (tSl (rSlA K) t tl th) (dSlT τ lo hi) := ⟨fun H0 M0 H M σ δ Q Qd r q k =>
  h.run H0 M0 H M σ δ _ _ r.l.l q fun x v H1 M1 w1 e1 n1 q1 => hl.run H0 M0 H1 M1 σ δ _ _ (r.l.xe w1 e1) q1 fun l H2 M2 w2 e2 q2 => hh.run H0 M0 H2 M2 σ δ _ _ (r.xe w2 (e1.trans e2)) q2 fun u H3 M3 w3 e3 z => by
    have n3 := n1.xe w1 (e2.trans e3)
    have e := (e1.trans e2).trans e3
    obtain ⟨ds, rfl, z⟩ := z
    obtain ⟨a, vs, rfl, l', nl⟩ := n3
    refine ⟨a, vs, rfl, .inl (.of l'), fun wh => k (.d (.tup _)) _ H3 M3 w3 e ⟨a, vs, rfl, l', ?_⟩ z, fun _ p hp => k (.d (.tup _)) _ _ M3 (new_wd hp w3) (e.trans (new_xe hp w3)) ⟨p, _, rfl, upd_same, DnL.xt w3 (new_xe hp w3).toXT _ _ (nl.cut l u)⟩ z⟩
    have c := nl.cut l u
    have ec : cutV vs l u = vs := by
      unfold cutV
      rw [wh.1, wh.2, List.drop_zero, Nat.sub_zero, List.take_length]
    rw [ec] at c
    exact c⟩
def ρCatT : DX → DX → (DX → Prop) → Prop := fun x y Q => ∃ xs ys, x = .d (.tup xs) ∧ y = .d (.tup ys) ∧ xs.length + ys.length ≤ sizeLine ∧ Q (.d (.tup (xs ++ ys)))
theorem sr_catT : SR2 K (rCatA K) ρCatT := ⟨fun H0 H M x y v u Q Qd w n1 n2 h k => by
  obtain ⟨xs, ys, rfl, rfl, z, q⟩ := h
  obtain ⟨a, vs, rfl, l, nl⟩ := n1
  obtain ⟨b, us, rfl, l2, nl2⟩ := n2
  refine ⟨a, b, vs, us, rfl, rfl, .inl (.of l), .inl (.of l2), by rw [nl.len, nl2.len]; exact z, fun e => k (.d (.tup _)) _ H M w .refl ⟨b, us, rfl, l2, ?_⟩ q, fun _ e => k (.d (.tup _)) _ H M w .refl ⟨a, vs, rfl, l, ?_⟩ q, fun _ _ p hp => k (.d (.tup _)) _ _ M (new_wd hp w) (new_xe hp w) ⟨p, _, rfl, upd_same, DnL.xt w (new_xe hp w).toXT _ _ (nl.app nl2)⟩ q⟩
  · have z := nl.app nl2
    rw [e] at z
    exact z
  · have z := nl.app nl2
    rw [e, List.append_nil] at z
    exact z⟩
def dTyX (τ : TDE) : TDF := fun δ Q => τ δ fun x => match x with
  | .d (.lst ds) => Q ds
  | .b ds => Q ds
  | _ => False
theorem sib_list {t : TE} {τ : TDE} (h : SE K κ1 t τ) : SIB K κ1 (iList K t) (dTyX τ) := ⟨fun H0 M0 H M σ δ R Rd r q k => h.run H0 M0 H M σ δ _ _ r q fun x v H1 M1 w1 e1 n z => by
  cases x with
  | d d =>
    cases d <;> try exact z.elim
    obtain ⟨a, vs, rfl, l, m, nl⟩ := n
    have wk := walks_list w1 l m nl
    exact ⟨a, rfl, ⟨vs, .inl (.of l)⟩, k _ _ H1 M1 w1 e1 ⟨fun i d H1 M1 e w1 x => wk.item i d H1 M1 e w1 x.toXT, fun H1 M1 w1 x => wk.stop H1 M1 w1 x.toXT⟩ z⟩
  | b ds =>
    obtain ⟨a, vs, rfl, m, _, l, nl⟩ := n
    refine ⟨a, rfl, ⟨vs, .inl (.of l)⟩, k _ ds H1 M1 w1 e1 ⟨fun i d H2 M2 e w2 x => ?_, fun H2 M2 w2 x => ⟨vs, .inl (.of ((x.k2 a m).2.trans l)), by rw [nl.len]; exact Nat.le_refl _⟩⟩ z⟩
    obtain ⟨v, ev, nv⟩ := (DnL.xt w1 x.toXT _ _ nl).nth e
    have l1 : SqL K H2 a vs := .inl (.of ((x.k2 a m).2.trans l))
    refine ⟨⟨vs, v, l1, ev⟩, ?_⟩
    rintro y H3 ⟨rfl, hy⟩
    have e1 := hy vs l1
    rw [ev] at e1
    cases e1
    exact ⟨M2, w2, .refl, nv⟩⟩
end
end K
namespace K
open PySem L2 Rp
variable [TabT]
section
variable {K : PySem.W.Frag}
theorem sf_catL {ta tb : TE} {a b : TDE} (ha : SE K κ1 ta a) (hb : SE K κ2 tb b) : SF K (κ1 + κ2) (tOp rCat ta tb) (fun δ Q => a δ fun x => b δ fun y => ∃ xs ys, x.get = .lst xs ∧ y.get = .lst ys ∧ xs.length + ys.length ≤ sizeLine ∧ Q (xs ++ ys)) := ⟨fun H0 M0 H M σ δ Q Qd s h k =>
  ha.run H0 M0 H M σ δ _ _ s.l h fun x v H1 M1 w1 e1 n1 h1 => hb.run H0 M0 H1 M1 σ δ _ _ (s.xe w1 e1) h1 fun y u H2 M2 w2 e2 n2 h2 => by
    obtain ⟨xs, ys, ex, ey, lz, q⟩ := h2
    obtain ⟨a, vs, rfl, l, nl⟩ := lst_at (n1.xe w1 e2) ex
    obtain ⟨b, us, rfl, l2, nl2⟩ := lst_at n2 ey
    have e := e1.trans e2
    exact ⟨a, b, vs, us, rfl, rfl, l, l2, by rw [nl.len, nl2.len]; exact lz, fun p hp => k _ p _ _ (M2.put p (some false)) (own_wd hp w2) (e.trans (own_xe false hp w2)) put_same (e.free s.wd w2 hp) upd_same (DnL.xt w2 (own_xe false hp w2).toXT _ _ (nl.app nl2)) q⟩⟩
def repD (ds : List D) (n : Nat) : List D := (List.replicate n ds).flatten
theorem DnL.rep {H : Hp} {M : Mk_} {ds : List D} {vs : List V} (n : DnL K H M ds vs) : ∀ k : Nat, DnL K H M (repD ds k) (List.replicate k vs).flatten
  | 0 => rfl
  | k + 1 => by
    unfold repD
    rw [List.replicate_succ, List.replicate_succ, List.flatten_cons, List.flatten_cons]
    exact n.app (DnL.rep n k)
/-! built-ins -/
def DX.len : DX → Option Nat
  | .d (.tup ds) => some ds.length
  | .d (.lst ds) => some ds.length
  | .d (.scr ns) => some ns.length
  | .b ds => some ds.length
  | _ => none
theorem DX.len_is {H0 H : Hp} {M : Mk_} {x : DX} {n : Nat} {v : V} (d : Dx K H0 H M x v) (e : x.len = some n) : ∃ a vs, v = .ref a ∧ (SqL K H a vs ∨ SqT K H a vs) ∧ vs.length = n := by
  cases x with
  | b ds =>
    cases e
    obtain ⟨a, vs, ev, _, _, l, nl⟩ := d
    exact ⟨a, vs, ev, .inl (.inl (.of l)), nl.len⟩
  | d x =>
    cases x with
    | tup ds =>
      cases e
      obtain ⟨a, vs, ev, l, nl⟩ := d
      exact ⟨a, vs, ev, .inr (.inl (.of l)), nl.len⟩
    | lst ds =>
      cases e
      obtain ⟨a, vs, ev, l, _, nl⟩ := d
      exact ⟨a, vs, ev, .inl (.inl (.of l)), nl.len⟩
    | scr ns =>
      cases e
      obtain ⟨a, ev, l⟩ := d
      refine ⟨a, ns.map V.int, ev, .inl ?_, by rw [List.length_map]⟩
      rcases l with l | l
      · exact .inl l.1
      · exact l H
    | _ => cases e
def ρLen : List DX → (DX → Prop) → Prop := fun xs Q => ∃ x n, xs = [x] ∧ x.len = some n ∧ Q (.d (.int (n : Nat)))
theorem sc_len : SC K (fun xs H Q => ∃ p ys, xs = [.ref p] ∧ (SqL K H p ys ∨ SqT K H p ys) ∧ Q (.int ys.length) H) ρLen := ⟨fun H0 H M xs vs Q Qd w n h k => by
  obtain ⟨x, m, rfl, e, q⟩ := h
  obtain ⟨v, rfl, n1⟩ := dx1 n
  obtain ⟨a, us, rfl, l, lz⟩ := DX.len_is n1 e
  refine ⟨a, us, rfl, l, ?_⟩
  rw [lz]
  exact k (.d (.int _)) _ H M w .refl rfl q⟩
def ρLenS : List DX → (DX → Prop) → Prop := fun xs Q => ∃ z, xs = [.d (.str z)] ∧ z.length ≤ sizeLine ∧ Q (.d (.int (z.length : Nat)))
theorem sc_lenS : SC K (fun xs H Q => ∃ z, xs = [.str z] ∧ z.length ≤ sizeLine ∧ Q (.int z.length) H) ρLenS := ⟨fun H0 H M xs vs Q Qd w n h k => by
  obtain ⟨z, rfl, e, q⟩ := h
  obtain ⟨v, rfl, n1⟩ := dx1 n
  rw [DxStr n1]
  exact ⟨z, rfl, e, k (.d (.int _)) _ H M w .refl rfl q⟩⟩
def ρInt1 : List DX → (DX → Prop) → Prop := fun xs Q => (∃ i, xs = [.d (.int i)] ∧ Q (.d (.int i))) ∨ ∃ k, xs = [.d (.bl k)] ∧ Q (.d (.int (if k then 1 else 0)))
theorem sc_int1 : SC K (fun xs H Q => (∃ i, xs = [.int i] ∧ Q (.int i) H) ∨ ∃ k, xs = [.bl k] ∧ Q (.int (if k then 1 else 0)) H) ρInt1 := ⟨fun H0 H M xs vs Q Qd w n h k => by
  rcases h with ⟨i, rfl, q⟩ | ⟨i, rfl, q⟩
  · obtain ⟨v, rfl, n1⟩ := dx1 n
    rw [DxInt n1]
    exact .inl ⟨i, rfl, k (.d (.int _)) _ H M w .refl rfl q⟩
  · obtain ⟨v, rfl, n1⟩ := dx1 n
    rw [DxBl n1]
    exact .inr ⟨i, rfl, k (.d (.int _)) _ H M w .refl rfl q⟩⟩
def ρStrI : List DX → (DX → Prop) → Prop := fun xs Q => ∃ i : Int, xs = [.d (.int i)] ∧ i.natAbs.log2 < 1920 ∧ Q (.d (.str (nT i)))
theorem sc_strI : SC K (fun xs H Q => ∃ i, xs = [.int i] ∧ i.natAbs.log2 < 1920 ∧ Q (.str (toString i)) H) ρStrI := ⟨fun H0 H M xs vs Q Qd w n h k => by
  obtain ⟨i, rfl, e, q⟩ := h
  obtain ⟨v, rfl, n1⟩ := dx1 n
  rw [DxInt n1]
  exact ⟨i, rfl, e, k (.d (.str (nT i))) _ H M w .refl rfl q⟩⟩
def ρMax2 (g : Int → Int → Int) : List DX → (DX → Prop) → Prop := fun xs Q => ∃ i j, xs = [.d (.int i), .d (.int j)] ∧ Q (.d (.int (g i j)))
theorem sc_max2 : SC K (fun xs H Q => ∃ i j, xs = [.int i, .int j] ∧ Q (.int (if j > i then j else i)) H) (ρMax2 fun i j => if j > i then j else i) := ⟨fun H0 H M xs vs Q Qd w n h k => by
  obtain ⟨i, j, rfl, q⟩ := h
  obtain ⟨v, u, rfl, n1, n2⟩ := dx2 n
  rw [DxInt n1, DxInt n2]
  exact ⟨i, j, rfl, k (.d (.int _)) _ H M w .refl rfl q⟩⟩
theorem sc_min2 : SC K (fun xs H Q => ∃ i j, xs = [.int i, .int j] ∧ Q (.int (if j < i then j else i)) H) (ρMax2 fun i j => if j < i then j else i) := ⟨fun H0 H M xs vs Q Qd w n h k => by
  obtain ⟨i, j, rfl, q⟩ := h
  obtain ⟨v, u, rfl, n1, n2⟩ := dx2 n
  rw [DxInt n1, DxInt n2]
  exact ⟨i, j, rfl, k (.d (.int _)) _ H M w .refl rfl q⟩⟩
/-- the items of a list, a tuple -/
def DX.items : DX → Option (List D)
  | .d (.tup ds) => some ds
  | .d (.lst ds) => some ds
  | .b ds => some ds
  | _ => none
theorem DX.items_is {H0 H : Hp} {M : Mk_} {x : DX} {ds : List D} {v : V} (d : Dx K H0 H M x v) (e : x.items = some ds) : ∃ a vs, v = .ref a ∧ (SqL K H a vs ∨ SqT K H a vs) ∧ DnL K H M ds vs := by
  cases x with
  | b ds =>
    cases e
    obtain ⟨a, vs, ev, _, _, l, nl⟩ := d
    exact ⟨a, vs, ev, .inl (.inl (.of l)), nl⟩
  | d x =>
    cases x with
    | tup ds =>
      cases e
      obtain ⟨a, vs, ev, l, nl⟩ := d
      exact ⟨a, vs, ev, .inr (.inl (.of l)), nl⟩
    | lst ds =>
      cases e
      obtain ⟨a, vs, ev, l, _, nl⟩ := d
      exact ⟨a, vs, ev, .inl (.inl (.of l)), nl⟩
    | _ => cases e
theorem sf_list {t : TA} {r : TDA} (h : SA K κ1 t r) : SF K κ1 (tCB (fun xs H Q => ∃ p ys, xs = [.ref p] ∧ (SqL K H p ys ∨ SqT K H p ys) ∧ ∀ l, H l = none → Q (.ref l) (upd H l (.lst ys))) t) (fun δ Q => r δ fun xs => ∃ x ds, xs = [x] ∧ x.items = some ds ∧ Q ds) := ⟨fun H0 M0 H M σ δ Q Qd s q k => h.run H0 M0 H M σ δ _ _ s q fun xs vs H1 M1 w1 e1 n z => by
  obtain ⟨x, ds, rfl, e, z⟩ := z
  obtain ⟨v, rfl, n1⟩ := dx1 n
  obtain ⟨a, us, rfl, l, nl⟩ := DX.items_is n1 e
  exact ⟨a, us, rfl, l, fun p hp => k _ p _ _ (M1.put p (some false)) (own_wd hp w1) (e1.trans (own_xe false hp w1)) put_same (e1.free s.wd w1 hp) upd_same (DnL.xt w1 (own_xe false hp w1).toXT _ _ nl) z⟩⟩
theorem DX.items_tup {H0 H : Hp} {M : Mk_} {x : DX} {ds : List D} {v : V} (d : Dx K H0 H M x v) (e : x.items = some ds) : ∃ a vs, v = .ref a ∧ (SqL K H a vs ∨ H a = some (.tup vs)) ∧ DnL K H M ds vs := by
  cases x with
  | b ds =>
    cases e
    obtain ⟨a, vs, ev, _, _, l, nl⟩ := d
    exact ⟨a, vs, ev, .inl (.inl (.of l)), nl⟩
  | d x =>
    cases x with
    | tup ds =>
      cases e
      obtain ⟨a, vs, ev, l, nl⟩ := d
      exact ⟨a, vs, ev, .inr l, nl⟩
    | lst ds =>
      cases e
      obtain ⟨a, vs, ev, l, _, nl⟩ := d
      exact ⟨a, vs, ev, .inl (.inl (.of l)), nl⟩
    | _ => cases e
def ρTuple : List DX → (DX → Prop) → Prop := fun xs Q => ∃ x ds, xs = [x] ∧ x.items = some ds ∧ Q (.d (.tup ds))
theorem sc_tuple : SC K (fun xs H Q => ∃ p ys, xs = [.ref p] ∧ ((SqL K H p ys ∧ ∀ l, H l = none → Q (.ref l) (upd H l (.tup ys))) ∨ (SqT K H p ys ∧ Q (.ref p) H))) ρTuple := ⟨fun H0 H M xs vs Q Qd w n h k => by
  obtain ⟨x, ds, rfl, e, q⟩ := h
  obtain ⟨v, rfl, n1⟩ := dx1 n
  obtain ⟨a, us, rfl, l, nl⟩ := DX.items_tup n1 e
  refine ⟨a, us, rfl, ?_⟩
  rcases l with l | l
  · exact .inl ⟨l, fun p hp => k (.d (.tup ds)) _ _ M (new_wd hp w) (new_xe hp w) ⟨p, us, rfl, upd_same, DnL.xt w (new_xe hp w).toXT _ _ nl⟩ q⟩
  · exact .inr ⟨.inl (.of l), k (.d (.tup ds)) _ H M w .refl ⟨a, us, rfl, l, nl⟩ q⟩⟩
theorem DnL.ints {H : Hp} {M : Mk_} : ∀ {ns : List Int} {vs : List V}, DnL K H M (ns.map D.int) vs → vs = ns.map V.int
  | [], _, h => h
  | n :: ns, _, ⟨u, us, e, h, k⟩ => by
    have h : u = _ := h
    rw [e, h, DnL.ints k]
    rfl
theorem DnL.strs {H : Hp} {M : Mk_} : ∀ {ns : List Str} {vs : List V}, DnL K H M (ns.map D.str) vs → vs = ns.map V.str
  | [], _, h => h
  | n :: ns, _, ⟨u, us, e, h, k⟩ => by
    have h : u = _ := h
    rw [e, h, DnL.strs k]
    rfl
theorem DnL.bls {H : Hp} {M : Mk_} : ∀ {ns : List Bool} {vs : List V}, DnL K H M (ns.map D.bl) vs → vs = ns.map V.bl
  | [], _, h => h
  | n :: ns, _, ⟨u, us, e, h, k⟩ => by
    have h : u = _ := h
    rw [e, h, DnL.bls k]
    rfl
def ρSum : List DX → (DX → Prop) → Prop := fun xs Q => ∃ (x : DX) (ns : List Int), xs = [x] ∧ x.get = .lst (ns.map D.int) ∧ Q (.d (.int ns.sum))
theorem sc_sum : SC K (rSum K) ρSum := ⟨fun H0 H M xs vs Q Qd w n h k => by
  obtain ⟨x, ns, rfl, e, q⟩ := h
  obtain ⟨v, rfl, n1⟩ := dx1 n
  obtain ⟨a, us, rfl, l, nl⟩ := lst_at n1 e
  rw [nl.ints] at l
  exact ⟨a, ns, rfl, .inl (.of l), k (.d (.int _)) _ H M w .refl rfl q⟩⟩
def ρAll : List DX → (DX → Prop) → Prop := fun xs Q => ∃ (x : DX) (bs : List Bool), xs = [x] ∧ x.get = .lst (bs.map D.bl) ∧ Q (.d (.bl (bs.all id)))
theorem sc_all : SC K (rAll K) ρAll := ⟨fun H0 H M xs vs Q Qd w n h k => by
  obtain ⟨x, ns, rfl, e, q⟩ := h
  obtain ⟨v, rfl, n1⟩ := dx1 n
  obtain ⟨a, us, rfl, l, nl⟩ := lst_at n1 e
  rw [nl.bls] at l
  exact ⟨a, ns, rfl, .inl (.of l), k (.d (.bl _)) _ H M w .refl rfl q⟩⟩
def D.tyOk (K : PySem.W.Frag) : D → Value → Prop
  | .non, t => t = .type "NoneType"
  | .bl _, t => t = .type "bool"
  | .int _, t => t = .type "int"
  | .str _, t => t = .type "str"
  | .tup _, t => t = .type "tuple"
  | .lst _, t => t = .type "list"
  | .dic _, t => t = .type "dict"
  | .ins C _, t => t = .ref C ∧ Cls K C ∧ WIns K C
  | _, _ => False
theorem D.tyX {H : Hp} {M : Mk_} {d : D} {v : V} {t : Value} (n : Dn K H M d v) (h : d.tyOk K t) : TyX K H v t := by
  cases d with
  | non => have n : v = _ := n; have h : t = _ := h; subst n h; exact .base .non
  | bl _ => have n : v = _ := n; have h : t = _ := h; subst n h; exact .base (.bl _)
  | int _ => have n : v = _ := n; have h : t = _ := h; subst n h; exact .base (.int _)
  | str _ => have n : v = _ := n; have h : t = _ := h; subst n h; exact .base (.str _)
  | tup _ =>
    have h : t = _ := h
    obtain ⟨a, vs, rfl, l, _⟩ := n
    subst h
    exact .base (.tup l)
  | lst _ =>
    have h : t = _ := h
    obtain ⟨a, vs, rfl, l, _⟩ := n
    subst h
    exact .base (.lst l)
  | dic _ =>
    have h : t = _ := h
    obtain ⟨a, vs, rfl, l, _⟩ := n
    subst h
    exact .base (.dK l)
  | ins C fs =>
    obtain ⟨a, dx, ws, rfl, l, _⟩ := n
    obtain ⟨rfl, c, i⟩ := h
    exact .base (.ins l c i.ha i.hn i.htk i.hm)
  | raw _ => exact h.elim
  | deck => exact h.elim
  | scr _ => exact h.elim
def ρIsi (K' : PySem.W.Frag) : List DX → (DX → Prop) → Prop := fun xs Q => ∃ d c t u b, xs = [.d d, .d (.raw c)] ∧ ClsV c u ∧ d.tyOk K' t ∧ PySem.W.kitOne K' t u = some b ∧ Q (.d (.bl b))
theorem sc_isi : SC K (rIsi K) (ρIsi K) := ⟨fun H0 H M xs vs Q Qd w n h k => by
  obtain ⟨d, c, t, u, b, rfl, cv, ty, kt, q⟩ := h
  obtain ⟨v, u', rfl, n1, n2⟩ := dx2 n
  have n2 : u' = c := n2
  subst n2
  exact ⟨v, u', t, u, b, rfl, cv, D.tyX n1 ty, kt, k (.d (.bl b)) _ H M w .refl rfl q⟩⟩
/-! texts -/
def ωStr (τ : TDE) : TDF := fun δ Q => τ δ fun x => ∃ z : Str, x = .d (.str z) ∧ Q (z.cps.toList.map fun c => .str ⟨#[c]⟩)
theorem si_str {t : TE} {τ : TDE} (h : SE K κ1 t τ) : SI K κ1 (iStr t) (ωStr τ) := ⟨fun H0 M0 H M σ δ R Rd r q k => h.run H0 M0 H M σ δ _ _ r q fun x v H1 M1 w1 e1 n z => by
  obtain ⟨s, rfl, z⟩ := z
  refine ⟨s, n, k _ _ H1 M1 w1 e1 ⟨fun i d H2 M2 e w2 x => ?_, fun H2 M2 w2 x => ?_⟩ z⟩
  · rw [List.getElem?_map, Array.getElem?_toList] at e
    cases e2 : s.cps[i]? with
    | none => rw [e2] at e; cases e
    | some c =>
      rw [e2] at e
      have e := (Option.some.inj e).symm
      obtain ⟨hi, _⟩ := Array.getElem?_eq_some_iff.mp e2
      refine ⟨hi, ?_⟩
      rintro y H3 ⟨rfl, c', hc, rfl⟩
      rw [e2] at hc
      have hc := Option.some.inj hc
      subst hc e
      exact ⟨M2, w2, .refl, rfl⟩
  · show s.cps.size ≤ _
    rw [List.length_map, Array.length_toList]
    exact Nat.le_refl _⟩
def dFmt (τ : TDE) : TDE := fun δ Q => τ δ fun x => (∃ y : Str, x = .d (.str y) ∧ y.length ≤ sizeLine ∧ Q (.d (.str y))) ∨ ∃ i : Int, x = .d (.int i) ∧ i.natAbs.log2 < 1920 ∧ Q (.d (.str (nT i)))
theorem se_fmt {t : TE} {τ : TDE} (h : SE K κ1 t τ) : SE K κ1 (tFmt t) (dFmt τ) := ⟨fun H0 M0 H M σ δ Q Qd r q k => h.run H0 M0 H M σ δ _ _ r q fun x v H1 M1 w1 e1 n z => by
  rcases z with ⟨y, rfl, l, z⟩ | ⟨y, rfl, l, z⟩
  · exact .inl ⟨y, n, l, k (.d (.str y)) _ H1 M1 w1 e1 rfl z⟩
  · exact .inr ⟨y, n, l, k (.d (.str (nT y))) _ H1 M1 w1 e1 rfl z⟩⟩
def dFmtR (τ : TDE) : TDE := fun δ Q => τ δ fun x => (∃ y : Str, x = .d (.str y) ∧ (reprText y).length ≤ sizeLine ∧ Q (.d (.str (reprText y)))) ∨ ∃ i : Int, x = .d (.int i) ∧ i.natAbs.log2 < 1920 ∧ Q (.d (.str (nT i)))
theorem se_fmtR {t : TE} {τ : TDE} (h : SE K κ1 t τ) : SE K κ1 (tFmtR t) (dFmtR τ) := ⟨fun H0 M0 H M σ δ Q Qd r q k => h.run H0 M0 H M σ δ _ _ r q fun x v H1 M1 w1 e1 n z => by
  rcases z with ⟨y, rfl, l, z⟩ | ⟨y, rfl, l, z⟩
  · exact .inl ⟨y, n, l, k (.d (.str _)) _ H1 M1 w1 e1 rfl z⟩
  · exact .inr ⟨y, n, l, k (.d (.str (nT y))) _ H1 M1 w1 e1 rfl z⟩⟩
def dJs : List TDE → Str → Den → (Str → Prop) → Prop
  | [], acc, _, Q => Q acc
  | t :: ts, acc, δ, Q => t δ fun x => ∃ y : Str, x = .d (.str y) ∧ (acc ++ y).length ≤ sizeLine ∧ dJs ts (acc ++ y) δ Q
inductive SJ (K : PySem.W.Frag) : Nat → List TE → List TDE → Prop where
  | nil : SJ K 0 [] []
  | cons {t : TE} {τ : TDE} {ts : List TE} {τs : List TDE} {a b : Nat} (h : SE K a t τ) (r : SJ K b ts τs) : SJ K (a + b) (t :: ts) (τ :: τs)
theorem SJ.run {ts : List TE} {τs : List TDE} (h : SJ K κ1 ts τs) : ∀ (acc : Str) (H0 : Hp) (M0 : Mk_) (H : Hp) (M : Mk_) (σ : L2.St) (δ : Den) (Q : Str → Hp → Prop) (Qd : Str → Prop), RS K κ1 H0 M0 H M σ δ → dJs τs acc δ Qd → (∀ z H' M', Wd H' M' → XE κ1 H M H' M' → Qd z → Q z H') → tJs ts acc σ H Q := by
  induction h with
  | nil => intro acc H0 M0 H M σ δ Q Qd r q k; exact k acc H M r.wd .refl q
  | cons h _ ih =>
    intro acc H0 M0 H M σ δ Q Qd r q k
    refine h.run H0 M0 H M σ δ _ _ r.l q fun x v H1 M1 w1 e1 n z => ?_
    obtain ⟨y, rfl, l, z⟩ := z
    exact ⟨y, n, l, ih _ H0 M0 H1 M1 σ δ Q Qd (r.xe w1 e1) z fun z H2 M2 w2 e2 q2 => k z H2 M2 w2 (e1.trans e2) q2⟩
theorem se_joined {ts : List TE} {τs : List TDE} (h : SJ K κ1 ts τs) : SE K κ1 (fun σ H Q => tJs ts Str.empty σ H fun out H1 => Q (.str out) H1) (fun δ Q => dJs τs Str.empty δ fun z => Q (.d (.str z))) := ⟨fun H0 M0 H M σ δ Q Qd r q k =>
  h.run _ H0 M0 H M σ δ _ _ r q fun z H1 M1 w1 e1 q1 => k (.d (.str z)) _ H1 M1 w1 e1 rfl q1⟩
def dJoin (o e : TDE) : TDE := fun δ Q => o δ fun x => ∃ a, x = .d (.str a) ∧ e δ fun y => ∃ ys : List Str, y.items = some (ys.map D.str) ∧ (ys.map (·.length)).sum + ys.length * a.length ≤ 16777216 ∧ Q (.d (.str (Txt.join a ys)))
theorem se_join {to te : TE} {o e : TDE} (ho : SE K κ1 to o) (he : SE K κ2 te e) : SE K (κ1 + κ2) (tM1 (fun x xs H Q => ∃ a p, ∃ ys : List Str, x = .str a ∧ xs = [.ref p] ∧ (SqL K H p (ys.map V.str) ∨ SqT K H p (ys.map V.str)) ∧ (ys.map (·.length)).sum + ys.length * a.length ≤ 16777216 ∧ Q (.str (Txt.join a ys)) H) to te) (dJoin o e) := ⟨fun H0 M0 H M σ δ Q Qd r q k => ho.run H0 M0 H M σ δ _ _ r.l q fun x v H1 M1 w1 e1 n z => by
  obtain ⟨a, rfl, z⟩ := z
  refine ⟨⟨a, n⟩, he.run H0 M0 H1 M1 σ δ _ _ (r.xe w1 e1) z fun y u H2 M2 w2 e2 n2 z2 => ?_⟩
  obtain ⟨ys, e, l, z2⟩ := z2
  obtain ⟨p, us, rfl, sq, nl⟩ := DX.items_is n2 e
  rw [nl.strs] at sq
  exact ⟨a, p, ys, n, rfl, sq, l, k (.d (.str _)) _ H2 M2 w2 (e1.trans e2) rfl z2⟩⟩
/-! == of data, in -/
mutual
def D.py : D → Option PyData
  | .non => some .none
  | .bl b => some (.bool b)
  | .int i => some (.int i)
  | .str s => some (.str s)
  | .tup ds => (D.pyL ds).map .tuple
  | .lst ds => (D.pyL ds).map .list
  | _ => none
def D.pyL : List D → Option (List PyData)
  | [] => some []
  | d :: ds => match D.py d, D.pyL ds with
    | some p, some ps => some (p :: ps)
    | _, _ => none
end
mutual
theorem D.py_is {H : Hp} {M : Mk_} : ∀ (d : D) (v : V) (p : PyData), Dn K H M d v → d.py = some p → Dp K H v p
  | .non, _, _, h, e => by cases e; have h : _ = V.non := h; subst h; exact .non
  | .bl _, _, _, h, e => by cases e; have h : _ = V.bl _ := h; subst h; exact .bl _
  | .int _, _, _, h, e => by cases e; have h : _ = V.int _ := h; subst h; exact .int _
  | .str _, _, _, h, e => by cases e; have h : _ = V.str _ := h; subst h; exact .str _
  | .tup ds, _, _, ⟨a, vs, ev, l, n⟩, e => by
    unfold D.py at e
    cases q : D.pyL ds with
    | none => rw [q] at e; cases e
    | some ps =>
      rw [q] at e
      cases e
      subst ev
      exact .tup (.inl (.of l)) (D.pyL_is ds vs ps n q)
  | .lst ds, _, _, ⟨a, vs, ev, l, _, n⟩, e => by
    unfold D.py at e
    cases q : D.pyL ds with
    | none => rw [q] at e; cases e
    | some ps =>
      rw [q] at e
      cases e
      subst ev
      exact .lst (.inl (.of l)) (D.pyL_is ds vs ps n q)
  | .raw _, _, _, _, e => by cases e
  | .ins _ _, _, _, _, e => by cases e
  | .dic _, _, _, _, e => by cases e
  | .deck, _, _, _, e => by cases e
  | .scr _, _, _, _, e => by cases e
theorem D.pyL_is {H : Hp} {M : Mk_} : ∀ (ds : List D) (vs : List V) (ps : List PyData), DnL K H M ds vs → D.pyL ds = some ps → DpAll K H vs ps
  | [], _, _, h, e => by cases e; have h : _ = [] := h; subst h; exact .nil
  | d :: ds, _, _, ⟨u, us, ev, h, n⟩, e => by
    unfold D.pyL at e
    cases q1 : D.py d with
    | none => rw [q1] at e; cases e
    | some p =>
      cases q2 : D.pyL ds with
      | none => rw [q1, q2] at e; cases e
      | some ps =>
        rw [q1, q2] at e
        cases e
        subst ev
        exact .cons (D.py_is d u p h q1) (D.pyL_is ds us ps n q2)
end
theorem Dx.py {H0 H : Hp} {M : Mk_} {x : DX} {v : V} {p : PyData} (n : Dx K H0 H M x v) (e : x.get.py = some p) : Dp K H v p := by
  cases x with
  | d d => exact D.py_is d v p n e
  | b ds =>
    obtain ⟨a, vs, rfl, _, _, l, nl⟩ := n
    have e : D.py (.lst ds) = some p := e
    unfold D.py at e
    cases q : D.pyL ds with
    | none => rw [q] at e; cases e
    | some ps =>
      rw [q] at e
      cases e
      exact .lst (.inl (.of l)) (D.pyL_is ds vs ps nl q)
def ρEqD (neg : Bool) : DX → DX → (DX → Prop) → Prop := fun x y Q => ∃ p q, x.get.py = some p ∧ y.get.py = some q ∧ SeqAt.shaped p = true ∧ SeqAt.shaped q = true ∧ Q (.d (.bl (if neg then !PyData.eqv p q else PyData.eqv p q)))
theorem sr_eqD : SR2 K (rEqD K) (ρEqD false) := ⟨fun H0 H M x y v u Q Qd w n1 n2 h k => by
  obtain ⟨p, q, e1, e2, s1, s2, h⟩ := h
  exact ⟨p, q, n1.py e1, n2.py e2, s1, s2, k (.d (.bl _)) _ H M w .refl rfl h⟩⟩
theorem sr_neD : SR2 K (rNeD K) (ρEqD true) := ⟨fun H0 H M x y v u Q Qd w n1 n2 h k => by
  obtain ⟨p, q, e1, e2, s1, s2, h⟩ := h
  exact ⟨p, q, n1.py e1, n2.py e2, s1, s2, k (.d (.bl _)) _ H M w .refl rfl h⟩⟩
def svL : List D → Option (List V)
  | [] => some []
  | d :: ds => match d.sv, svL ds with
    | some v, some vs => some (v :: vs)
    | _, _ => none
theorem svL_is {H : Hp} {M : Mk_} : ∀ (ds : List D) (vs us : List V), DnL K H M ds vs → svL ds = some us → vs = us ∧ us.all flatV = true
  | [], _, _, h, e => by cases e; exact ⟨h, rfl⟩
  | d :: ds, _, _, ⟨w, ws, ev, h, n⟩, e => by
    unfold svL at e
    cases q1 : d.sv with
    | none => rw [q1] at e; cases e
    | some v =>
      cases q2 : svL ds with
      | none => rw [q1, q2] at e; cases e
      | some vs =>
        rw [q1, q2] at e
        cases e
        obtain ⟨r1, r2⟩ := svL_is ds ws vs n q2
        refine ⟨by rw [ev, D.sv_is h q1, r1], ?_⟩
        rw [List.all_cons, r2, Bool.and_true]
        cases d <;> cases q1 <;> rfl
def ρIn (neg : Bool) : DX → DX → (DX → Prop) → Prop := fun x y Q => ∃ d v ds vs, x = .d d ∧ d.sv = some v ∧ y.items = some ds ∧ svL ds = some vs ∧ Q (.d (.bl (if neg then !inV v vs else inV v vs)))
theorem sr_in {neg : Bool} : SR2 K (rIn K neg) (ρIn neg) := ⟨fun H0 H M x y v u Q Qd w n1 n2 h k => by
  obtain ⟨d, v', ds, vs, rfl, e1, e2, e3, h⟩ := h
  obtain ⟨a, us, rfl, sq, nl⟩ := DX.items_is n2 e2
  obtain ⟨r1, r2⟩ := svL_is ds us vs nl e3
  subst r1
  have e := D.sv_is n1 e1
  subst e
  refine ⟨a, us, rfl, sq, ?_, r2, k (.d (.bl _)) _ H M w .refl rfl h⟩
  cases d <;> cases e1 <;> rfl⟩
def ρInS (neg : Bool) : DX → DX → (DX → Prop) → Prop := fun x y Q => ∃ (c : Nat) (z : Str), x = .d (.str ⟨#[c]⟩) ∧ y = .d (.str z) ∧ Q (.d (.bl (if neg then !decide (c ∈ z.cps.toList) else decide (c ∈ z.cps.toList))))
theorem sr_inS : SR2 K (fun x y H Q => ∃ (c : Nat) (z : Str), x = .str ⟨#[c]⟩ ∧ y = .str z ∧ Q (.bl (decide (c ∈ z.cps.toList))) H) (ρInS false) := ⟨fun H0 H M x y v u Q Qd w n1 n2 h k => by
  obtain ⟨c, z, rfl, rfl, h⟩ := h
  exact ⟨c, z, n1, n2, k (.d (.bl _)) _ H M w .refl rfl h⟩⟩
theorem sr_notInS : SR2 K (fun x y H Q => ∃ (c : Nat) (z : Str), x = .str ⟨#[c]⟩ ∧ y = .str z ∧ Q (.bl (!decide (c ∈ z.cps.toList))) H) (ρInS true) := ⟨fun H0 H M x y v u Q Qd w n1 n2 h k => by
  obtain ⟨c, z, rfl, rfl, h⟩ := h
  exact ⟨c, z, n1, n2, k (.d (.bl _)) _ H M w .refl rfl h⟩⟩
end
/-! ### a def -/
def dstart (n : Nat) (ds : List D) : Den := ds.map .dat ++ List.replicate (n - ds.length) .un
theorem DnL.slot {K : PySem.W.Frag} {H : Hp} {M : Mk_} : ∀ (ds : List D) (vs : List V) (n i : Nat) (d : D), DnL K H M ds vs → (ds.map DV.dat ++ List.replicate n .un)[i]? = some (.dat d) → ∃ v, (vs.map some ++ List.replicate n none)[i]? = some (some v) ∧ Dn K H M d v
  | [], _, n, i, d, h, e => by
    have h : _ = [] := h
    rw [List.map_nil, List.nil_append, List.getElem?_replicate] at e
    split at e <;> cases e
  | c :: ds, _, n, 0, d, ⟨u, us, ev, h, k⟩, e => by
    subst ev
    have e : some (DV.dat c) = some (DV.dat d) := e
    cases e
    exact ⟨u, rfl, h⟩
  | c :: ds, _, n, i + 1, d, ⟨u, us, ev, h, k⟩, e => by
    subst ev
    exact DnL.slot ds us n i d k e
theorem no_own : ∀ (ds : List D) (n i : Nat) (x : List D), (ds.map DV.dat ++ List.replicate n .un)[i]? ≠ some (.own x)
  | [], n, i, x, e => by
    rw [List.map_nil, List.nil_append, List.getElem?_replicate] at e
    split at e <;> cases e
  | c :: ds, n, 0, x, e => by cases e
  | c :: ds, n, i + 1, x, e => no_own ds n i x e
/-- room for c more draws -/
def Mk_.up (M : Mk_) (c : Nat) : Mk_ := ⟨M.m, M.n + c⟩
theorem Wd.up {H : Hp} {M : Mk_} (w : Wd H M) (c : Nat) : Wd H (M.up c) := ⟨fun a h => let ⟨x, y, z, e, l⟩ := w.dk a h; ⟨x, y, z, e, fun h => Nat.le_trans (l h) (Nat.le_add_right _ _)⟩, w.ow, w.tb⟩
theorem rs_start {K : PySem.W.Frag} {H : Hp} {M : Mk_} {N : List Str} {ds : List D} {vs : List V} {c : Nat} (w : Wd H M) (l : M.n + c ≤ LIM) (n : DnL K H M ds vs) : RS K c H (M.up c) H M (L2.start N vs) (dstart N.length ds) := by
  unfold L2.start dstart
  rw [n.len]
  exact ⟨w.up c, w, ⟨⟨fun _ _ h m _ => ⟨h, m⟩, fun _ _ h m => ⟨⟨_, h⟩, m⟩, fun _ h => h⟩, fun _ h => ⟨h, rfl⟩⟩, Nat.le_refl _, l, by rw [List.length_append, List.length_append, List.length_map, List.length_map, List.length_replicate, List.length_replicate, n.len], fun i d e => DnL.slot ds vs _ i d n e, fun i x e => absurd e (no_own ds _ i x), fun i j x y a e => absurd e (no_own ds _ i x)⟩
theorem up_xe {H H' : Hp} {M M' : Mk_} {c : Nat} (x : XB H (M.up c) H' M') (l : M'.n + 0 ≤ (M.up c).n) : XE c H M H' M' := ⟨⟨⟨x.k0, x.kt, x.k1⟩, x.k2⟩, l⟩
/-- the run of a body -/
theorem run_body {K : PySem.W.Frag} {N : List Str} {H : Hp} {M : Mk_} {ds : List D} {vs : List V} {t : TS} {τ : TDS} {c c' : Nat} {Q : VK} {Qd : D → Prop} (wd : Wd H M) (l : M.n + c ≤ LIM) (n : DnL K H M ds vs) (h : SS K c' t τ) (hc : c' ≤ c) (p : τ { nx := fun _ => Qd .non, rt := Qd } (dstart N.length ds))
    (q : ∀ d v H' M', Wd H' M' → XE c H M H' M' → Dn K H' M' d v → Qd d → Q v H') : t { nx := fun _ H' => Q .non H', rt := Q } (L2.start N vs) H :=
  h.run 0 H (M.up c) H M _ _ _ _ ((rs_start wd l n).le hc) p ⟨fun σ' δ' H' M' r x z => q .non .non H' M' r.wd (up_xe r.base r.cr) rfl z, fun d v H' M' w' e m n z => q d v H' M' w' (up_xe e m) n z, fun _ _ _ _ _ _ z => z.elim, fun _ _ _ _ _ _ z => z.elim⟩
section
variable {P : Program} {w : World} {K : PySem.W.Frag} {mg : Str → Option Value} {base : Heap}
/-- THE RULE for a def over data -/
theorem okD {x qual : Str} {st : Stmt} {f : Addr} {fd : FuncData} {N ps : List Str} {k c : Nat} {π : List D → (D → Prop) → Prop} (F : Fun K x qual st f fd) (S : FnScope N ps (defScope st)) (len : ∀ ds Q, π ds Q → ds.length = ps.length)
    (hbody : ∀ (cdv : Value) (A : Around) (outer : List Env) (s : Shared) (H : Hp) (E : XK), Room k (A.deeper (PyProof.Rows.envOfC qual (defScope st) s.heap.objs.size f cdv)) →
      ∃ t τ c', PSs (cxOf CX0 P w K mg base N qual (defScope st) f cdv A outer s H E).nox (defBody st) t ∧ SS K c' t τ ∧ c' ≤ c ∧ ∀ ds Q, π ds Q → τ { nx := fun _ => Q .non, rt := Q } (dstart N.length ds)) : FnOk P w K mg base CX0 (k + 1) f fd ps (spD K c π) := by
  refine F.ok S (fun vs H Q E h => ?_) (fun cdv A outer s H vs Q E hr h => ?_)
  · obtain ⟨M, ds, Qd, _, _, n, p, _⟩ := h
    rw [n.len]
    exact len _ _ p
  · obtain ⟨M, ds, Qd, l, wd, n, p, q⟩ := h
    obtain ⟨t, τ, c', h1, h2, hc, h3⟩ := hbody cdv A outer s H E hr
    exact ⟨t, h1, run_body wd l n h2 hc (h3 ds Qd p) q⟩
/-- an older promise, told over data -/
theorem toD {k c : Nat} {f : Addr} {fd : FuncData} {ps : List Str} {sp : Sp} {π : List D → (D → Prop) → Prop} (F : FnOk P w K mg base CX0 k f fd ps sp)
    (h : ∀ (H : Hp) (M : Mk_) ds vs (Q : VK) (Qd : D → Prop) E, M.n + c ≤ LIM → Wd H M → DnL K H M ds vs → π ds Qd → (∀ d v H' M', Wd H' M' → XE c H M H' M' → Dn K H' M' d v → Qd d → Q v H') → sp vs H Q E) : FnOk P w K mg base CX0 k f fd ps (spD K c π) :=
  F.imp fun vs H Q E ⟨M, ds, Qd, l, wd, n, p, q⟩ => h H M ds vs Q Qd E l wd n p q
end
end K
namespace K
open PySem L2 Rp
variable [TabT]
/-! ### repr of data -/
mutual
def D.pure : D → Bool
  | .non => true
  | .bl _ => true
  | .int _ => true
  | .str _ => true
  | .tup ds => D.pureL ds
  | .lst ds => D.pureL ds
  | .ins _ fs => D.pureF fs
  | _ => false
def D.pureL : List D → Bool
  | [] => true
  | d :: ds => D.pure d && D.pureL ds
def D.pureF : List (Str × D) → Bool
  | [] => true
  | (_, d) :: ds => D.pure d && D.pureF ds
end
section
variable {K : PySem.W.Frag}
theorem sv_inv {H : Hp} {M : Mk_} {e : D} {v : V} (pe : e.pure = true) (k : Dn K H M e v) (hv : ∀ a, v ≠ .ref a) : e.sv = some v := by
  cases e with
  | non => have k : v = _ := k; rw [k]; rfl
  | bl _ => have k : v = _ := k; rw [k]; rfl
  | int _ => have k : v = _ := k; rw [k]; rfl
  | str _ => have k : v = _ := k; rw [k]; rfl
  | raw _ => cases pe
  | dic _ => cases pe
  | deck => cases pe
  | scr _ => cases pe
  | tup _ => obtain ⟨a, _, q, _⟩ := k; exact absurd q (hv a)
  | lst _ => obtain ⟨a, _, q, _⟩ := k; exact absurd q (hv a)
  | ins _ _ => obtain ⟨a, _, _, q, _⟩ := k; exact absurd q (hv a)
theorem sv_inj {d e : D} {v : V} (h : d.sv = some v) (k : e.sv = some v) : d = e := by
  cases d <;> cases h <;> cases e <;> cases k <;> rfl
mutual
theorem Dn.det {H : Hp} {M : Mk_} : ∀ (d e : D) (v : V), d.pure = true → e.pure = true → Dn K H M d v → Dn K H M e v → d = e
  | .non, e, v, _, pe, h, k => by
    have h : v = _ := h
    subst h
    exact sv_inj (v := .non) rfl (sv_inv pe k fun _ z => nomatch z)
  | .bl b, e, v, _, pe, h, k => by
    have h : v = _ := h
    subst h
    exact sv_inj (v := .bl b) rfl (sv_inv pe k fun _ z => nomatch z)
  | .int b, e, v, _, pe, h, k => by
    have h : v = _ := h
    subst h
    exact sv_inj (v := .int b) rfl (sv_inv pe k fun _ z => nomatch z)
  | .str b, e, v, _, pe, h, k => by
    have h : v = _ := h
    subst h
    exact sv_inj (v := .str b) rfl (sv_inv pe k fun _ z => nomatch z)
  | .tup ds, e, v, pd, pe, ⟨a, vs, ev, l, n⟩, k => by
    subst ev
    cases e with
    | tup es =>
      obtain ⟨b, us, ev, l2, n2⟩ := k
      cases ev
      rw [l] at l2
      cases l2
      rw [DnL.det ds es vs pd pe n n2]
    | lst es => obtain ⟨b, us, ev, l2, _⟩ := k; cases ev; rw [l] at l2; cases l2
    | ins C fs => obtain ⟨b, dx, us, ev, l2, _⟩ := k; cases ev; rw [l] at l2; cases l2
    | non => have k : V.ref a = V.non := k; cases k
    | bl _ => have k : V.ref a = V.bl _ := k; cases k
    | int _ => have k : V.ref a = V.int _ := k; cases k
    | str _ => have k : V.ref a = V.str _ := k; cases k
    | raw _ => cases pe
    | dic _ => cases pe
    | deck => cases pe
    | scr _ => cases pe
  | .lst ds, e, v, pd, pe, ⟨a, vs, ev, l, _, n⟩, k => by
    subst ev
    cases e with
    | lst es =>
      obtain ⟨b, us, ev, l2, _, n2⟩ := k
      cases ev
      rw [l] at l2
      cases l2
      rw [DnL.det ds es vs pd pe n n2]
    | tup es => obtain ⟨b, us, ev, l2, _⟩ := k; cases ev; rw [l] at l2; cases l2
    | ins C fs => obtain ⟨b, dx, us, ev, l2, _⟩ := k; cases ev; rw [l] at l2; cases l2
    | non => have k : V.ref a = V.non := k; cases k
    | bl _ => have k : V.ref a = V.bl _ := k; cases k
    | int _ => have k : V.ref a = V.int _ := k; cases k
    | str _ => have k : V.ref a = V.str _ := k; cases k
    | raw _ => cases pe
    | dic _ => cases pe
    | deck => cases pe
    | scr _ => cases pe
  | .ins C fs, e, v, pd, pe, ⟨a, dx, ws, ev, l, n⟩, k => by
    subst ev
    cases e with
    | ins C2 fs2 =>
      obtain ⟨b, dx2, us, ev, l2, n2⟩ := k
      cases ev
      rw [l] at l2
      cases l2
      rw [DnF.det fs fs2 ws pd pe n n2]
    | tup es => obtain ⟨b, us, ev, l2, _⟩ := k; cases ev; rw [l] at l2; cases l2
    | lst es => obtain ⟨b, us, ev, l2, _⟩ := k; cases ev; rw [l] at l2; cases l2
    | non => have k : V.ref a = V.non := k; cases k
    | bl _ => have k : V.ref a = V.bl _ := k; cases k
    | int _ => have k : V.ref a = V.int _ := k; cases k
    | str _ => have k : V.ref a = V.str _ := k; cases k
    | raw _ => cases pe
    | dic _ => cases pe
    | deck => cases pe
    | scr _ => cases pe
  | .raw _, _, _, pd, _, _, _ => by cases pd
  | .dic _, _, _, pd, _, _, _ => by cases pd
  | .deck, _, _, pd, _, _, _ => by cases pd
  | .scr _, _, _, pd, _, _, _ => by cases pd
theorem DnL.det {H : Hp} {M : Mk_} : ∀ (ds es : List D) (vs : List V), D.pureL ds = true → D.pureL es = true → DnL K H M ds vs → DnL K H M es vs → ds = es
  | [], es, vs, _, _, h, k => by
    have h : vs = [] := h
    subst h
    cases es with
    | nil => rfl
    | cons e es => obtain ⟨_, _, q, _⟩ := k; cases q
  | d :: ds, es, vs, pd, pe, ⟨u, us, q, h, n⟩, k => by
    subst q
    cases es with
    | nil => have k : u :: us = [] := k; cases k
    | cons e es =>
      obtain ⟨_, _, q, h2, n2⟩ := k
      cases q
      have pd := Bool.and_eq_true_iff.mp pd
      have pe := Bool.and_eq_true_iff.mp pe
      rw [Dn.det d e u pd.1 pe.1 h h2, DnL.det ds es us pd.2 pe.2 n n2]
theorem DnF.det {H : Hp} {M : Mk_} : ∀ (ds es : List (Str × D)) (vs : List (Str × V)), D.pureF ds = true → D.pureF es = true → DnF K H M ds vs → DnF K H M es vs → ds = es
  | [], es, vs, _, _, h, k => by
    have h : vs = [] := h
    subst h
    cases es with
    | nil => rfl
    | cons e es => obtain ⟨_, _, q, _⟩ := k; cases q
  | (x, d) :: ds, es, vs, pd, pe, ⟨u, us, q, h, n⟩, k => by
    subst q
    cases es with
    | nil => have k : (x, u) :: us = [] := k; cases k
    | cons e es =>
      obtain ⟨y, e⟩ := e
      obtain ⟨_, _, q, h2, n2⟩ := k
      cases q
      have pd := Bool.and_eq_true_iff.mp pd
      have pe := Bool.and_eq_true_iff.mp pe
      rw [Dn.det d e u pd.1 pe.1 h h2, DnF.det ds es us pd.2 pe.2 n n2]
end
abbrev M0_ : Mk_ := ⟨fun _ => none, 0⟩
theorem wd0 {H : Hp} (t : LamX.Tabs TabT.T H) : Wd H M0_ := ⟨fun _ h => (nomatch h), fun _ h => (nomatch h), t⟩
theorem same_xt0 {H H' : Hp} {M : Mk_} (e : Same H H') : XT H M H' M := ⟨fun b o h m _ => ⟨e b o h, m⟩, fun b ps h m => ⟨⟨ps, e _ _ h⟩, m⟩, fun _ h => h⟩
/-- all stays but the tables, which may grow -/
structure SmT (H H' : Hp) : Prop where
  k0 : ∀ b o, H b = some o → (∀ ps, o ≠ .tbl ps) → H' b = some o
  kt : ∀ b ps, H b = some (.tbl ps) → ∃ qs, H' b = some (.tbl qs)
  tb : LamX.Tabs TabT.T H → LamX.Tabs TabT.T H'
theorem SmT.of {H H' : Hp} (e : Same H H') : SmT H H' := ⟨fun b o h _ => e b o h, fun b ps h => ⟨ps, e _ _ h⟩, fun t => t.ext e⟩
theorem SmT.refl (H : Hp) : SmT H H := .of (Same.refl H)
theorem SmT.trans {H H1 H2 : Hp} (a : SmT H H1) (b : SmT H1 H2) : SmT H H2 := ⟨fun c o h n => b.k0 c o (a.k0 c o h n) n, fun c ps h => let ⟨qs, z⟩ := a.kt c ps h; b.kt c qs z, fun t => b.tb (a.tb t)⟩
theorem smt_xe {H H' : Hp} {M : Mk_} (w : Wd H M) (e : SmT H H') : Wd H' M ∧ XE 0 H M H' M :=
  ⟨⟨fun a h => let ⟨x, y, z, q, l⟩ := w.dk a h; ⟨x, y, z, e.k0 _ _ q (fun _ z => nomatch z), l⟩, fun a h => let ⟨xs, q⟩ := w.ow a h; ⟨xs, e.k0 _ _ q (fun _ z => nomatch z)⟩, e.tb w.tb⟩, ⟨⟨⟨fun b o h m n => ⟨e.k0 b o h n, m⟩, fun b ps h m => ⟨e.kt b ps h, m⟩, fun _ h => h⟩, fun b h => ⟨h, by
    obtain ⟨xs, q⟩ := w.ow b h
    rw [q]
    exact e.k0 _ _ q (fun _ z => nomatch z)⟩⟩, Nat.le_refl _⟩⟩
theorem same_xe {H H' : Hp} {M : Mk_} (w : Wd H M) (e : Same H H') : Wd H' M ∧ XE 0 H M H' M := smt_xe w (.of e)
theorem smt_of0 {c : Nat} {H H' : Hp} {M' : Mk_} (x : XE c H M0_ H' M') (w : Wd H' M') : SmT H H' := ⟨fun b o h n => (x.k0 b o h rfl n).1, fun b ps h => (x.kt b ps h rfl).1, fun _ => w.tb⟩
theorem Dn.same {H H' : Hp} (s : Same H H') (d : D) (v : V) (h : Dn K H M0_ d v) : Dn K H' M0_ d v :=
  @Dn.xt ⟨[], true⟩ K H H' M0_ M0_ (@wd0 ⟨[], true⟩ H fun _ z => nomatch z) (same_xt0 s) d v h
mutual
theorem Dn.m0 {H : Hp} {M : Mk_} : ∀ (d : D) (v : V), d.pure = true → Dn K H M d v → Dn K H M0_ d v
  | .non, _, _, h => h
  | .bl _, _, _, h => h
  | .int _, _, _, h => h
  | .str _, _, _, h => h
  | .tup ds, _, p, ⟨a, vs, e, l, n⟩ => ⟨a, vs, e, l, DnL.m0 ds vs p n⟩
  | .lst ds, _, p, ⟨a, vs, e, l, _, n⟩ => ⟨a, vs, e, l, rfl, DnL.m0 ds vs p n⟩
  | .ins C fs, _, p, ⟨a, dx, ws, e, l, n⟩ => ⟨a, dx, ws, e, l, DnF.m0 fs ws p n⟩
  | .raw _, _, p, _ => by cases p
  | .dic _, _, p, _ => by cases p
  | .deck, _, p, _ => by cases p
  | .scr _, _, p, _ => by cases p
theorem DnL.m0 {H : Hp} {M : Mk_} : ∀ (ds : List D) (vs : List V), D.pureL ds = true → DnL K H M ds vs → DnL K H M0_ ds vs
  | [], _, _, h => h
  | d :: ds, _, p, ⟨u, us, q, h, n⟩ => ⟨u, us, q, Dn.m0 d u (Bool.and_eq_true_iff.mp p).1 h, DnL.m0 ds us (Bool.and_eq_true_iff.mp p).2 n⟩
theorem DnF.m0 {H : Hp} {M : Mk_} : ∀ (ds : List (Str × D)) (vs : List (Str × V)), D.pureF ds = true → DnF K H M ds vs → DnF K H M0_ ds vs
  | [], _, _, h => h
  | (_, d) :: ds, _, p, ⟨u, us, q, h, n⟩ => ⟨u, us, q, Dn.m0 d u (Bool.and_eq_true_iff.mp p).1 h, DnF.m0 ds us (Bool.and_eq_true_iff.mp p).2 n⟩
end
mutual
def D.rep (own : Addr → List (Str × D) → Str) : D → Str
  | .non => ("None" : String)
  | .bl b => (if b then "True" else "False" : String)
  | .int i => nT i
  | .str x => reprText x
  | .tup ds => tupleText (D.repL own ds)
  | .lst ds => listText (D.repL own ds)
  | .ins C fs => own C fs
  | _ => ("" : String)
def D.repL (own : Addr → List (Str × D) → Str) : List D → List Str
  | [] => []
  | d :: ds => D.rep own d :: D.repL own ds
end
theorem repL_map {own : Addr → List (Str × D) → Str} : ∀ ds : List D, D.repL own ds = ds.map (D.rep own)
  | [] => rfl
  | d :: ds => by
    unfold D.repL
    rw [List.map_cons, repL_map ds]
mutual
/-- it may be told, n deep -/
def D.rok (good : Nat → Addr → List (Str × D) → Prop) : D → Nat → Prop
  | .non, _ => True
  | .bl _, _ => True
  | .int i, _ => Sz 1600 i
  | .str x, _ => (reprText x).length ≤ sizeLine
  | .tup ds, n => ∃ m, n = m + 2 ∧ D.rokL good ds m
  | .lst ds, n => ∃ m, n = m + 2 ∧ D.rokL good ds m
  | .ins C fs, n => good n C fs
  | _, _ => False
def D.rokL (good : Nat → Addr → List (Str × D) → Prop) : List D → Nat → Prop
  | [], _ => True
  | d :: ds, n => D.rok good d n ∧ D.rokL good ds n
end
theorem rokL_all {good : Nat → Addr → List (Str × D) → Prop} {n : Nat} : ∀ {ds : List D}, D.rokL good ds n ↔ ∀ d ∈ ds, D.rok good d n
  | [] => ⟨fun _ _ h => (nomatch h), fun _ => trivial⟩
  | d :: ds => ⟨fun h e he => by
      rcases List.mem_cons.mp he with rfl | he
      · exact h.1
      · exact rokL_all.mp h.2 e he, fun h => ⟨h d List.mem_cons_self, rokL_all.mpr fun e he => h e (List.mem_cons_of_mem _ he)⟩⟩
theorem pureL_all : ∀ {ds : List D}, D.pureL ds = true ↔ ∀ d ∈ ds, d.pure = true
  | [] => ⟨fun _ _ h => (nomatch h), fun _ => rfl⟩
  | d :: ds => by
    unfold D.pureL
    rw [Bool.and_eq_true_iff]
    exact ⟨fun h e he => by
      rcases List.mem_cons.mp he with rfl | he
      · exact h.1
      · exact pureL_all.mp h.2 e he, fun h => ⟨h d List.mem_cons_self, pureL_all.mpr fun e he => h e (List.mem_cons_of_mem _ he)⟩⟩
mutual
/-- where the parts stand that hold others -/
def adr (H : Hp) : D → V → List Addr
  | .tup ds, .ref a => a :: (match H a with
    | some (.tup vs) => adrL H ds vs
    | _ => [])
  | .lst ds, .ref a => a :: (match H a with
    | some (.lst vs) => adrL H ds vs
    | _ => [])
  | .ins _ fs, .ref a => match H a with
    | some (.ins _ _ ws) => adrF H fs ws
    | _ => []
  | _, _ => []
def adrL (H : Hp) : List D → List V → List Addr
  | d :: ds, v :: vs => adr H d v ++ adrL H ds vs
  | _, _ => []
def adrF (H : Hp) : List (Str × D) → List (Str × V) → List Addr
  | (_, d) :: ds, (_, v) :: vs => adr H d v ++ adrF H ds vs
  | _, _ => []
end
theorem adr_tup {H : Hp} {ds : List D} {a : Addr} {vs : List V} (h : H a = some (.tup vs)) : adr H (.tup ds) (.ref a) = a :: adrL H ds vs := by unfold adr; rw [h]
theorem adr_lst {H : Hp} {ds : List D} {a : Addr} {vs : List V} (h : H a = some (.lst vs)) : adr H (.lst ds) (.ref a) = a :: adrL H ds vs := by unfold adr; rw [h]
theorem adr_ins {H : Hp} {C dx : Addr} {fs : List (Str × D)} {a : Addr} {ws : List (Str × V)} (h : H a = some (.ins C dx ws)) : adr H (.ins C fs) (.ref a) = adrF H fs ws := by unfold adr; rw [h]
mutual
theorem adr_same {H H' : Hp} (s : Same H H') : ∀ (d : D) (v : V), Dn K H M0_ d v → adr H' d v = adr H d v
  | .tup ds, _, ⟨a, vs, e, l, n⟩ => by subst e; rw [adr_tup l, adr_tup (s _ _ l), adrL_same s ds vs n]
  | .lst ds, _, ⟨a, vs, e, l, _, n⟩ => by subst e; rw [adr_lst l, adr_lst (s _ _ l), adrL_same s ds vs n]
  | .ins C fs, _, ⟨a, dx, ws, e, l, n⟩ => by subst e; rw [adr_ins l, adr_ins (s _ _ l), adrF_same s fs ws n]
  | .non, v, _ => by cases v <;> rfl
  | .bl _, v, _ => by cases v <;> rfl
  | .int _, v, _ => by cases v <;> rfl
  | .str _, v, _ => by cases v <;> rfl
  | .raw _, v, _ => by cases v <;> rfl
  | .dic _, v, _ => by cases v <;> rfl
  | .deck, v, _ => by cases v <;> rfl
  | .scr _, v, _ => by cases v <;> rfl
theorem adrL_same {H H' : Hp} (s : Same H H') : ∀ (ds : List D) (vs : List V), DnL K H M0_ ds vs → adrL H' ds vs = adrL H ds vs
  | [], vs, _ => by cases vs <;> rfl
  | d :: ds, _, ⟨u, us, e, h, n⟩ => by
    subst e
    show adr H' d u ++ adrL H' ds us = adr H d u ++ adrL H ds us
    rw [adr_same s d u h, adrL_same s ds us n]
theorem adrF_same {H H' : Hp} (s : Same H H') : ∀ (ds : List (Str × D)) (vs : List (Str × V)), DnF K H M0_ ds vs → adrF H' ds vs = adrF H ds vs
  | [], vs, _ => by cases vs <;> rfl
  | (x, d) :: ds, _, ⟨u, us, e, h, n⟩ => by
    subst e
    show adr H' d u ++ adrF H' ds us = adr H d u ++ adrF H ds us
    rw [adr_same s d u h, adrF_same s ds us n]
end
/-- a part that holds others -/
def Sub (K : PySem.W.Frag) (H : Hp) (m : Nat) (b : Addr) : Prop := ∃ e : D, e.pure = true ∧ sizeOf e < m ∧ ((∃ ds, e = .tup ds) ∨ ∃ ds, e = .lst ds) ∧ Dn K H M0_ e (.ref b)
theorem Sub.mono {H : Hp} {m n : Nat} {b : Addr} (h : Sub K H m b) (l : m ≤ n) : Sub K H n b := let ⟨e, p, s, c, d⟩ := h; ⟨e, p, Nat.lt_of_lt_of_le s l, c, d⟩
theorem sub_no {H : Hp} {d : D} {b : Addr} (p : d.pure = true) (h : Dn K H M0_ d (.ref b)) : ¬ Sub K H (sizeOf d) b := fun ⟨e, pe, s, _, k⟩ => by
  rw [Dn.det e d _ pe p k h] at s
  exact Nat.lt_irrefl _ s
mutual
theorem adr_sub {H : Hp} : ∀ (d : D) (v : V), d.pure = true → Dn K H M0_ d v → ∀ b ∈ adr H d v, Sub K H (sizeOf d + 1) b
  | .tup ds, _, p, h, b, hb => by
    obtain ⟨a, vs, e, l, n⟩ := id h
    subst e
    rw [adr_tup l] at hb
    have sz : sizeOf (D.tup ds) = 1 + sizeOf ds := by simp
    rcases List.mem_cons.mp hb with rfl | hb
    · exact ⟨_, p, Nat.lt_succ_self _, .inl ⟨_, rfl⟩, h⟩
    · exact (adrL_sub ds vs p n b hb).mono (by rw [sz]; omega)
  | .lst ds, _, p, h, b, hb => by
    obtain ⟨a, vs, e, l, _, n⟩ := id h
    subst e
    rw [adr_lst l] at hb
    have sz : sizeOf (D.lst ds) = 1 + sizeOf ds := by simp
    rcases List.mem_cons.mp hb with rfl | hb
    · exact ⟨_, p, Nat.lt_succ_self _, .inr ⟨_, rfl⟩, h⟩
    · exact (adrL_sub ds vs p n b hb).mono (by rw [sz]; omega)
  | .ins C fs, _, p, h, b, hb => by
    obtain ⟨a, dx, ws, e, l, n⟩ := id h
    subst e
    rw [adr_ins l] at hb
    have sz : sizeOf (D.ins C fs) = 1 + sizeOf C + sizeOf fs := by simp
    exact (adrF_sub fs ws p n b hb).mono (by rw [sz]; omega)
  | .non, v, _, _, b, hb => by cases v <;> cases hb
  | .bl _, v, _, _, b, hb => by cases v <;> cases hb
  | .int _, v, _, _, b, hb => by cases v <;> cases hb
  | .str _, v, _, _, b, hb => by cases v <;> cases hb
  | .raw _, v, _, _, b, hb => by cases v <;> cases hb
  | .dic _, v, _, _, b, hb => by cases v <;> cases hb
  | .deck, v, _, _, b, hb => by cases v <;> cases hb
  | .scr _, v, _, _, b, hb => by cases v <;> cases hb
theorem adrL_sub {H : Hp} : ∀ (ds : List D) (vs : List V), D.pureL ds = true → DnL K H M0_ ds vs → ∀ b ∈ adrL H ds vs, Sub K H (sizeOf ds) b
  | [], vs, _, _, b, hb => by cases vs <;> cases hb
  | d :: ds, _, p, ⟨u, us, e, h, n⟩, b, hb => by
    subst e
    have p := Bool.and_eq_true_iff.mp p
    have sz : sizeOf (d :: ds) = 1 + sizeOf d + sizeOf ds := rfl
    have hb : b ∈ adr H d u ++ adrL H ds us := hb
    rcases List.mem_append.mp hb with hb | hb
    · exact (adr_sub d u p.1 h b hb).mono (by rw [sz]; omega)
    · exact (adrL_sub ds us p.2 n b hb).mono (by rw [sz]; omega)
theorem adrF_sub {H : Hp} : ∀ (ds : List (Str × D)) (vs : List (Str × V)), D.pureF ds = true → DnF K H M0_ ds vs → ∀ b ∈ adrF H ds vs, Sub K H (sizeOf ds) b
  | [], vs, _, _, b, hb => by cases vs <;> cases hb
  | (x, d) :: ds, _, p, ⟨u, us, e, h, n⟩, b, hb => by
    subst e
    have p := Bool.and_eq_true_iff.mp p
    have sz : sizeOf ((x, d) :: ds) = 1 + (1 + sizeOf x + sizeOf d) + sizeOf ds := rfl
    have hb : b ∈ adr H d u ++ adrF H ds us := hb
    rcases List.mem_append.mp hb with hb | hb
    · exact (adr_sub d u p.1 h b hb).mono (by rw [sz]; omega)
    · exact (adrF_sub ds us p.2 n b hb).mono (by rw [sz]; omega)
end
/-- own instances tell their text -/
def OwnSays (X : Cx) (K : PySem.W.Frag) (good : Nat → Addr → List (Str × D) → Prop) (own : Addr → List (Str × D) → Str) : Prop :=
  ∀ n C fs H v, good n C fs → (D.ins C fs).pure = true → Dn K H M0_ (.ins C fs) v → Says X n (adr H (.ins C fs) v) H v (own C fs)
mutual
theorem D.says {X : Cx} (hX : X.K = K) {good : Nat → Addr → List (Str × D) → Prop} {own : Addr → List (Str × D) → Str} (ow : OwnSays X K good own) {H : Hp} : ∀ (d : D) (n : Nat) (v : V), d.pure = true → D.rok good d n → Dn K H M0_ d v → Says X n (adr H d v) H v (D.rep own d)
  | .non, n, v, _, _, h => by
    have h : v = _ := h
    subst h
    exact says_non.mono (Nat.zero_le _) fun _ z => nomatch z
  | .bl b, n, v, _, _, h => by
    have h : v = _ := h
    subst h
    exact (says_bl b).mono (Nat.zero_le _) fun _ z => nomatch z
  | .int i, n, v, _, r, h => by
    have h : v = _ := h
    subst h
    exact (says_int (Nat.lt_trans (Sz.log r (by decide)) (by decide))).mono (Nat.zero_le _) fun _ z => nomatch z
  | .str x, n, v, _, r, h => by
    have h : v = _ := h
    subst h
    exact (says_str r).mono (Nat.zero_le _) fun _ z => nomatch z
  | .tup ds, n, v, p, ⟨m, em, r⟩, h => by
    obtain ⟨a, vs, ev, l, nl⟩ := id h
    subst em ev
    have sz : sizeOf (D.tup ds) = 1 + sizeOf ds := by simp
    have na : a ∉ adrL H ds vs := fun z => sub_no (d := .tup ds) p h ((adrL_sub ds vs p nl a z).mono (by rw [sz]; omega))
    rw [adr_tup l]
    exact says_tup (by rw [hX]; exact .inl (.of l)) na (by rw [repL_map, List.length_map]; exact nl.len.symm) fun i x hx => D.saysL hX ow ds m vs p r nl i x hx
  | .lst ds, n, v, p, ⟨m, em, r⟩, h => by
    obtain ⟨a, vs, ev, l, _, nl⟩ := id h
    subst em ev
    have sz : sizeOf (D.lst ds) = 1 + sizeOf ds := by simp
    have na : a ∉ adrL H ds vs := fun z => sub_no (d := .lst ds) p h ((adrL_sub ds vs p nl a z).mono (by rw [sz]; omega))
    rw [adr_lst l]
    exact says_lst (by rw [hX]; exact .inl (.of l)) na (by rw [repL_map, List.length_map]; exact nl.len.symm) fun i x hx => D.saysL hX ow ds m vs p r nl i x hx
  | .ins C fs, n, v, p, r, h => ow n C fs H v r p h
  | .raw _, _, _, p, _, _ => by cases p
  | .dic _, _, _, p, _, _ => by cases p
  | .deck, _, _, p, _, _ => by cases p
  | .scr _, _, _, p, _, _ => by cases p
theorem D.saysL {X : Cx} (hX : X.K = K) {good : Nat → Addr → List (Str × D) → Prop} {own : Addr → List (Str × D) → Str} (ow : OwnSays X K good own) {H : Hp} : ∀ (ds : List D) (n : Nat) (vs : List V), D.pureL ds = true → D.rokL good ds n → DnL K H M0_ ds vs → ∀ (i : Nat) (x : V), vs[i]? = some x → ∃ t, (D.repL own ds)[i]? = some t ∧ Says X n (adrL H ds vs) H x t
  | [], n, vs, _, _, h, i, x, e => by
    have h : vs = [] := h
    subst h
    cases e
  | d :: ds, n, vs, p, r, ⟨u, us, ev, h, nl⟩, i, x, e => by
    have p := Bool.and_eq_true_iff.mp p
    subst ev
    cases i with
    | zero => cases e; exact ⟨_, rfl, (D.says hX ow d n u p.1 r.1 h).mono (Nat.le_refl _) fun b hb => List.mem_append_left _ hb⟩
    | succ i =>
      have e : us[i]? = some x := e
      obtain ⟨t, et, q⟩ := D.saysL hX ow ds n us p.2 r.2 nl i x e
      exact ⟨t, et, q.mono (Nat.le_refl _) fun b hb => List.mem_append_right _ hb⟩
end
def ρRepr (good : Nat → Addr → List (Str × D) → Prop) (own : Addr → List (Str × D) → Str) (n : Nat) : List DX → (DX → Prop) → Prop := fun xs Q => ∃ d, xs = [.d d] ∧ d.pure = true ∧ D.rok good d n ∧ (D.rep own d).length ≤ sizeLine ∧ Q (.d (.str (D.rep own d)))
theorem sc_repr {X : Cx} {good : Nat → Addr → List (Str × D) → Prop} {own : Addr → List (Str × D) → Str} {n : Nat} (ow : OwnSays X K good own) (hX : X.K = K) : SC K (rRepr X n) (ρRepr good own n) := ⟨fun H0 H M xs vs Q Qd w nn h k => by
  obtain ⟨d, rfl, p, r, lz, q⟩ := h
  obtain ⟨v, rfl, n1⟩ := dx1 nn
  refine ⟨v, _, _, rfl, D.says hX ow d n v p r (Dn.m0 d v p n1), lz, fun H2 e => ?_⟩
  obtain ⟨w2, x2⟩ := same_xe w e
  exact k (.d (.str _)) _ H2 M w2 x2 rfl q⟩
theorem strs_dn {H : Hp} {M : Mk_} : ∀ zs : List Str, DnL K H M (zs.map D.str) (zs.map V.str)
  | [] => rfl
  | z :: zs => ⟨_, _, rfl, rfl, strs_dn zs⟩
/-! ### sorted -/
theorem sf_sortedS {t : TA} {r : TDA} (h : SA K κ1 t r) : SF K κ1 (tCB (rSortedS K) t) (fun δ Q => r δ fun xs => ∃ (x : DX) (ys : List Str), xs = [x] ∧ x.get = .lst (ys.map D.str) ∧ ys.length < 64 ∧ ∀ zs : List Str, zs.Perm ys → PyProof.Rows.sortedS zs = true → Q (zs.map D.str)) := ⟨fun H0 M0 H M σ δ Q Qd s q k => h.run H0 M0 H M σ δ _ _ s q fun xs vs H1 M1 w1 e1 n z => by
  obtain ⟨x, ys, rfl, e, l64, z⟩ := z
  obtain ⟨v, rfl, n1⟩ := dx1 n
  obtain ⟨a, us, rfl, l, nl⟩ := lst_at n1 e
  rw [nl.strs] at l
  refine ⟨a, ys, rfl, .inl (.of l), l64, fun zs p pm so hp => k _ p _ _ (M1.put p (some false)) (own_wd hp w1) (e1.trans (own_xe false hp w1)) put_same (e1.free s.wd w1 hp) upd_same ?_ (z zs pm so)⟩
  exact strs_dn zs⟩
def rSortedD (K : PySem.W.Frag) : List V → Hp → VK → Prop := fun vs H Q => ∃ (a : Addr) (xs : List V) (ps : List PyData), vs = [.ref a] ∧ SqL K H a xs ∧ DpAll K H xs ps ∧ PySem.W.AllAlike ps ∧ PySem.W.Sortable ps ∧ (∀ p ∈ ps, p.depth ≤ 50) ∧
  ∀ p, H p = none → Q (.ref p) (upd H p (.lst (((xs.zip ps).mergeSort (PySem.W.dataLe false (fun q : V × PyData => q.2))).map Prod.fst)))
theorem dpAll_len {H : Hp} : ∀ {xs : List V} {ps : List PyData}, DpAll K H xs ps → xs.length = ps.length
  | _, _, .nil => rfl
  | _, _, .cons _ h => by rw [List.length_cons, List.length_cons, dpAll_len h]
theorem cr_sortedD {X : Cx} (hu : X.A.units + 64 < cLine) : CallR X (.builtin "sorted") (rSortedD X.K) := by
  intro pins s σ H vs us Q I r h
  obtain ⟨a, xs, ps, rfl, hs, dp, al, so, dep, q⟩ := h
  obtain ⟨its, rv, hl, hz⟩ := I.list hs
  rw [Vals.ref1 r]
  have lps := dpAll_len dp
  have e2 : (xs.zip ps).map (fun q : V × PyData => q.2) = ps := List.map_snd_zip (by omega)
  have e1 : (xs.zip ps).map (fun q : V × PyData => q.1) = xs := List.map_fst_zip (by omega)
  have ez : ∀ (xs : List V) (ps : List PyData) (its : List Value), Vals xs its → DpAll X.K H xs ps → PySem.W.EachIs (fun (v : Value) (b : V × PyData) => RelV b.1 v) its (xs.zip ps) ∧ PySem.W.EachIs (fun (v : Value) (b : V × PyData) => ∃ as, Reads s.heap v b.2 as) its (xs.zip ps) := by
    intro xs ps its rv dp
    induction rv generalizing ps with
    | nil => cases dp; exact ⟨.nil, .nil⟩
    | cons r _ ih =>
      cases dp with
      | cons d1 d2 =>
        obtain ⟨i1, i2⟩ := ih _ d2
        exact ⟨.cons r i1, .cons (Dp.reads I _ _ _ d1 r) i2⟩
  obtain ⟨z1, z2⟩ := ez xs ps its rv dp
  refine PySem.W.sorted_data (enc := fun q : V × PyData => q.2) hl.isList z1 z2 (by rw [e2]; exact al) (by rw [e2]; exact so) ?_ (fun b hb => ?_) fun out lo eo => ?_
  · rw [List.length_zip]
    omega
  · have hb2 : b.2 ∈ ps := by
      rw [← e2]
      exact List.mem_map_of_mem hb
    have := dep _ hb2
    omega
  · obtain ⟨ep, he'⟩ := PyProof.Rows.sortedAll_at s.heap its (List.toArray out)
    have vo : ∀ (out : List Value) (bs : List (V × PyData)), PySem.W.EachIs (fun (v : Value) (b : V × PyData) => RelV b.1 v) out bs → Vals (bs.map Prod.fst) out := by
      intro out bs h
      induction h with
      | nil => exact .nil
      | cons h _ ih => exact .cons h ih
    have hlen : (((xs.zip ps).mergeSort (PySem.W.dataLe false (fun q : V × PyData => q.2))).map Prod.fst).length ≤ sizeLine := by
      rw [List.length_map, List.length_mergeSort, List.length_zip]
      omega
    exact ⟨.ref _, upd H (s.heap.objs.size + 1) (.lst _), I.laid (t' := s.toks) (fun _ _ => PyProof.Rows.sortedAll_old) (Nat.le_succ _) ⟨hlen, out, ep, vo _ _ eo, he'⟩, rfl, q _ (I.hok.fresh (Nat.le_succ _))⟩
end
end K
namespace K
open PySem L2 Rp
variable [TabT]
section
variable {K : PySem.W.Frag}
/-! ### expressions that change the own list in slot i -/
structure XW (l : Addr) (H : Hp) (M : Mk_) (H' : Hp) (M' : Mk_) : Prop extends XT H M H' M' where
  k2 : ∀ b, M b = some false → b ≠ l → M' b = some false ∧ H' b = H b
theorem XE.xw {c : Nat} {l : Addr} {H H' : Hp} {M M' : Mk_} (x : XE c H M H' M') : XW l H M H' M' := ⟨x.toXT, fun b m _ => x.k2 b m⟩
theorem XW.trans {l : Addr} {H H1 H2 : Hp} {M M1 M2 : Mk_} (a : XW l H M H1 M1) (b : XW l H1 M1 H2 M2) : XW l H M H2 M2 :=
  ⟨a.toXT.trans b.toXT, fun q h n => let z := a.k2 q h n; let y := b.k2 q z.1 n; ⟨y.1, y.2.trans z.2⟩⟩
abbrev TD2 := Den → List D → (DX → List D → Prop) → Prop
structure S2 (K : PySem.W.Frag) (c : Nat) (i : Nat) (t : TE) (τ : TD2) : Prop where
  run : ∀ r H0 M0 H M σ δ ds l (Q : VK) (Qd : DX → List D → Prop), RS K (c + r) H0 M0 H M σ (δ.set i (.own ds)) → i < δ.length → σ[i]? = some (some (.ref l)) → τ δ ds Qd →
    (∀ x v ds' H' M', RS K r H0 M0 H' M' σ (δ.set i (.own ds')) → XW l H M H' M' → Dx K H0 H' M' x v → (∀ bs, x ≠ .b bs) → Qd x ds' → Q v H') → t σ H Q
abbrev TA2 := Den → List D → (List D → List D → Prop) → Prop
structure A2 (K : PySem.W.Frag) (c : Nat) (i : Nat) (t : TA) (τ : TA2) : Prop where
  run : ∀ r H0 M0 H M σ δ ds l (Q : List V → Hp → Prop) (Qd : List D → List D → Prop), RS K (c + r) H0 M0 H M σ (δ.set i (.own ds)) → i < δ.length → σ[i]? = some (some (.ref l)) → τ δ ds Qd →
    (∀ xs vs ds' H' M', RS K r H0 M0 H' M' σ (δ.set i (.own ds')) → XW l H M H' M' → DnL K H' M' xs vs → Qd xs ds' → Q vs H') → t σ H Q
/-- one that changes nothing -/
theorem S2.of {i : Nat} {t : TE} {τ : TDE} (h : SE K κ1 t τ) : S2 K κ1 i t (fun δ ds Q => τ (δ.set i (.own ds)) fun x => match x with
    | .d d => Q (.d d) ds
    | _ => False) := ⟨fun ρ0 H0 M0 H M σ δ ds l Q Qd r li s q k => h.run H0 M0 H M σ _ _ _ r.l q fun x v H' M' w' e n z => by
  cases x with
  | b _ => exact z.elim
  | d d => exact k (.d d) v ds H' M' (r.xe w' e) e.xw n (fun bs z => by cases z) z⟩
/-- xs.pop(k) of the list in slot i -/
theorem s2_pop {i : Nat} {t : TE} {τ : TDE} (h : SE K κ1 t τ) : S2 K κ1 i (tBM K "list" rPopAt (tVar i) (tCons t tNil)) (fun δ ds Q => τ (δ.set i (.own ds)) fun x => ∃ (j : Int) (k : Nat) (d : D), x = .d (.int j) ∧ -(2 ^ 63) ≤ j ∧ j < 2 ^ 63 ∧ seqIndex? j ds.length = some k ∧ ds[k]? = some d ∧ Q (.d d) (ds.eraseIdx k)) := ⟨fun ρ0 H0 M0 H M σ δ ds l Q Qd r li s q kk => by
  have eo : (δ.set i (.own ds))[i]? = some (.own ds) := by rw [List.getElem?_set_self li]
  obtain ⟨a, vs, s', m, n0, lv, nl⟩ := r.own i ds eo
  rw [s] at s'
  cases s'
  refine ⟨.ref l, s, .inl ⟨rfl, vs, .inl (.of lv)⟩, h.run H0 M0 H M σ _ _ _ r.l q fun x v H' M' w' x' n z => ?_⟩
  obtain ⟨j, k, d, rfl, b1, b2, hk, hd, z⟩ := z
  have lv' : H' l = some (.lst vs) := (x'.k2 l m).2.trans lv
  have nl' := DnL.xt r.wd x'.toXT _ _ nl
  obtain ⟨u, hu, nu⟩ := nl'.nth hd
  have n : v = _ := n
  subst n
  refine ⟨l, vs, j, k, u, rfl, rfl, lv', b1, b2, by rw [nl.len]; exact hk, hu, ?_⟩
  have er : DnL K H' M' (ds.eraseIdx k) (vs.eraseIdx k) := by
    rw [List.eraseIdx_eq_take_drop_succ, List.eraseIdx_eq_take_drop_succ]
    exact (nl'.take k).app (nl'.drop (k + 1))
  have r2 := (r.xe w' x').write (i := i) (es := ds.eraseIdx k) eo s er
  rw [List.set_set] at r2
  have m' := (x'.k2 l m).1
  refine kk (.d d) u _ _ M' r2 ⟨x'.toXT.trans (wr_xt m'), fun b mb nb => ?_⟩ (Dn.xt w' (wr_xt m') _ _ nu) (fun bs z => by cases z) z
  have y := x'.k2 b mb
  exact ⟨y.1, by rw [upd_ne nb]; exact y.2⟩⟩
theorem a2_nil {i : Nat} : A2 K 0 i tNil (fun _ ds Q => Q [] ds) := ⟨fun ρ0 H0 M0 H M σ δ ds l Q Qd r li s q k => k [] [] ds H M (r.le (by omega)) XE.refl.xw rfl q⟩
theorem a2_cons {i : Nat} {te : TE} {t : TA} {τ : TD2} {α : TA2} (h : S2 K κ1 i te τ) (hr : A2 K κ2 i t α) : A2 K (κ1 + κ2) i (tCons te t) (fun δ ds Q => τ δ ds fun x ds1 => match x with
    | .d d => α δ ds1 fun xs ds2 => Q (d :: xs) ds2
    | _ => False) := ⟨fun ρ0 H0 M0 H M σ δ ds l Q Qd r li s q k => h.run (κ2 + ρ0) H0 M0 H M σ δ ds l _ _ (r.le (by omega)) li s q fun x v ds1 H1 M1 r1 x1 n1 _ z => by
  cases x with
  | b _ => exact z.elim
  | d d => exact hr.run ρ0 H0 M0 H1 M1 σ δ ds1 l _ _ r1 li s z fun xs vs ds2 H2 M2 r2 x2 n2 z2 => k (d :: xs) (v :: vs) ds2 H2 M2 r2 (x1.trans x2) ⟨v, vs, rfl, Dn.xt r1.wd x2.toXT _ _ n1, n2⟩ z2⟩
theorem s2_tup {i : Nat} {t : TA} {α : TA2} (h : A2 K κ1 i t α) : S2 K κ1 i (tTup t) (fun δ ds Q => α δ ds fun xs ds' => xs.length ≤ sizeLine ∧ Q (.d (.tup xs)) ds') := ⟨fun ρ0 H0 M0 H M σ δ ds l Q Qd r li s q k => h.run ρ0 H0 M0 H M σ δ ds l _ _ r li s q fun xs vs ds1 H1 M1 r1 x1 n1 z =>
  ⟨by rw [n1.len]; exact z.1, fun p hp => k (.d (.tup xs)) _ ds1 _ M1 (r1.xl (new_wd hp r1.wd) (new_xe hp r1.wd) (by omega)) (x1.trans (new_xe hp r1.wd).xw) ⟨p, vs, rfl, upd_same, DnL.xt r1.wd (new_xe hp r1.wd).toXT _ _ n1⟩ (fun bs z => by cases z) z.2⟩⟩
/-- ys.append(e), e changes the own list in slot i ≠ j -/
theorem ss_app2 {K' : PySem.W.Frag} {i j : Nat} {t : TE} {τ : TD2} (ij : i ≠ j) (h : S2 K κ1 i t τ) : SS K κ1 (tDrop (tBM K' "list" rAppend (tVar j) (tCons t tNil))) (fun DD δ => ∃ ds es, δ[i]? = some (.own ds) ∧ δ[j]? = some (.own es) ∧ τ δ ds fun x ds' => match x with
    | .d y => es.length < sizeLine ∧ DD.nx ((δ.set i (.own ds')).set j (.own (es ++ [y])))
    | _ => False) := ⟨fun ρ0 H0 M0 H M σ δ D DD r q k => by
  obtain ⟨ds, es, e1, e2, q⟩ := q
  have li : i < δ.length := (List.getElem?_eq_some_iff.mp e1).1
  have es1 : δ.set i (.own ds) = δ := by
    apply List.ext_getElem?
    intro x
    rw [List.getElem?_set]
    by_cases h : i = x
    · rw [if_pos h, if_pos li, ← h, e1]
    · rw [if_neg h]
  obtain ⟨l, us, s1, m1, n1, l1, nl1⟩ := r.own i ds e1
  obtain ⟨a, vs, s2, m2, n2, l2, nl2⟩ := r.own j es e2
  have nal : a ≠ l := fun z => ij (r.uniq i j ds es l e1 e2 s1 (by rw [s2, z]))
  refine ⟨.ref a, s2, .inl ⟨rfl, vs, .inl (.of l2)⟩, h.run ρ0 H0 M0 H M σ δ ds l _ _ (by rw [es1]; exact r) li s1 q fun x v ds' H' M' r' x' n _ z => ?_⟩
  cases x with
  | b _ => exact z.elim
  | d y =>
    have l' : H' a = some (.lst vs) := (x'.k2 a m2 nal).2.trans l2
    have e2' : (δ.set i (.own ds'))[j]? = some (.own es) := by rw [List.getElem?_set, if_neg ij]; exact e2
    refine ⟨a, vs, v, rfl, rfl, l', by rw [nl2.len]; exact z.1, ?_⟩
    exact k.nx _ _ _ _ (r'.write e2' s2 ((DnL.xt r.wd x'.toXT _ _ nl2).app (es := [y]) (us := [v]) ⟨v, [], rfl, n, rfl⟩)) (x'.toXT.trans (wr_xt (x'.k2 a m2 nal).1)) z.2⟩
theorem RS.xw {H0 H H' : Hp} {M0 M M' : Mk_} {σ : L2.St} {δ : Den} {i : Nat} {ds ds' : List D} {l : Addr} {us : List V} {c c' : Nat} (r : RS K c H0 M0 H M σ (δ.set i (.own ds))) (li : i < δ.length) (s : σ[i]? = some (some (.ref l)))
    (x : XW l H M H' M') (w' : Wd H' M') (b : XB H0 M0 H' M') (cr : M'.n + c' ≤ M0.n) (m : M' l = some false) (hl : H' l = some (.lst us)) (n : DnL K H' M' ds' us) : RS K c' H0 M0 H' M' σ (δ.set i (.own ds')) := by
  have eo : ∀ es : List D, (δ.set i (.own es))[i]? = some (.own es) := fun es => by rw [List.getElem?_set_self li]
  have ne : ∀ (es : List D) (j : Nat), j ≠ i → (δ.set i (.own es))[j]? = δ[j]? := fun es j h => by rw [List.getElem?_set, if_neg (Ne.symm h)]
  obtain ⟨l', vs0, s0, m0, n0, q0, k0⟩ := r.own i ds (eo ds)
  rw [s] at s0
  cases s0
  refine ⟨r.w0, w', b, cr, r.lim, by rw [List.length_set]; have := r.len; rw [List.length_set] at this; exact this, fun j d e => ?_, fun j y e => ?_, fun j k y z a e1 e2 e3 e4 => ?_⟩
  · by_cases h : j = i
    · subst h
      rw [eo] at e
      cases e
    · rw [ne _ j h] at e
      obtain ⟨v, e1, e2⟩ := r.dat j d (by rw [ne _ j h]; exact e)
      exact ⟨v, e1, Dn.xt r.wd x.toXT _ _ e2⟩
  · by_cases h : j = i
    · subst h
      rw [eo] at e
      cases e
      exact ⟨l, us, s, m, n0, hl, n⟩
    · rw [ne _ j h] at e
      have e' : (δ.set i (.own ds))[j]? = some (.own y) := by rw [ne _ j h]; exact e
      obtain ⟨a, vs, e1, ma, na, qa, ka⟩ := r.own j y e'
      have nal : a ≠ l := fun z => h (r.uniq j i y ds a e' (eo ds) e1 (by rw [z]; exact s))
      exact ⟨a, vs, e1, (x.k2 a ma nal).1, na, (x.k2 a ma nal).2.trans qa, DnL.xt r.wd x.toXT _ _ ka⟩
  · have own : ∀ (j : Nat) (y : List D), (δ.set i (.own ds'))[j]? = some (.own y) → ∃ y', (δ.set i (.own ds))[j]? = some (.own y') := fun j y e => by
      by_cases h : j = i
      · exact ⟨ds, by rw [h]; exact eo ds⟩
      · rw [ne _ j h] at e
        exact ⟨y, by rw [ne _ j h]; exact e⟩
    obtain ⟨y', e1⟩ := own j y e1
    obtain ⟨z', e2⟩ := own k z e2
    exact r.uniq j k y' z' a e1 e2 e3 e4
/-- [e for x in it], e changes the own list in slot i; x in slot v -/
def dLc2 (ω : TDF) (τ : TD2) (i v : Nat) : Den → (List D → List D → Prop) → Prop := fun δ Q => ∃ ds0, δ[i]? = some (.own ds0) ∧ ω δ fun zs => zs.length ≤ sizeLine ∧ ∃ I : Nat → List D → List D → Prop, I 0 [] ds0 ∧
  (∀ (k : Nat) (d : D) acc ds, zs[k]? = some d → I k acc ds → τ ((δ.set v .un).set v (.dat d)) ds fun y ds' => match y with
    | .d y => acc.length < sizeLine ∧ I (k + 1) (acc ++ [y]) ds'
    | _ => False) ∧ ∀ acc ds, I zs.length acc ds → Q acc ds
theorem lc2_run {i v : Nat} {wi : TI} {ω : TDF} {te : TE} {τ : TD2} (hi : SI K κ1 wi ω) (he : S2 K κ2 i te τ) (iv : i ≠ v) {H0 H : Hp} {M0 M : Mk_} {σ : L2.St} {δ : Den} {Q : VK} {Qd : List D → List D → Prop} {ρ0 : Nat} (r : RS K (κ1 + sizeLine * κ2 + ρ0) H0 M0 H M σ δ) (q : dLc2 ω τ i v δ Qd)
    (k : ∀ acc a us ds H' M', RS K ρ0 H0 M0 H' M' σ (δ.set i (.own ds)) → XT H M H' M' → M' a = some false → H a = none → H' a = some (.lst us) → DnL K H' M' acc us → Qd acc ds → Q (.ref a) H') : tLc wi (gName v) tYes te [v] σ H Q := by
  obtain ⟨ds0, e0, q⟩ := q
  have li : i < δ.length := (List.getElem?_eq_some_iff.mp e0).1
  have es1 : δ.set i (.own ds0) = δ := by
    apply List.ext_getElem?
    intro x
    rw [List.getElem?_set]
    by_cases h : i = x
    · rw [if_pos h, if_pos li, ← h, e0]
    · rw [if_neg h]
  obtain ⟨l, us0, s, m0, n0, l0, nl0⟩ := r.own i ds0 e0
  refine hi.run H0 M0 H M σ δ _ _ (r.le (by omega)) q fun J zs H1 M1 w1 e1 wk ⟨lz, I, i0, step, fin⟩ A hA => ?_
  have hz : zs.length * κ2 ≤ sizeLine * κ2 := Nat.mul_le_mul_right _ lz
  have r1 : RS K (zs.length * κ2 + ρ0) H0 M0 H1 M1 σ δ := r.xl w1 e1 (by omega)
  have nAl : A ≠ l := fun z => by
    rw [z, (e1.k2 l m0).2, l0] at hA
    cases hA
  refine ⟨fun k m H' => m + k = zs.length ∧ ∃ M' acc us ds, RS K (m * κ2 + ρ0) H0 M0 H' M' σ (δ.set i (.own ds)) ∧ XT H1 M1 H' M' ∧ M' A = some false ∧ H' A = some (.lst us) ∧ DnL K H' M' acc us ∧ I k acc ds,
    ⟨zs.length, rfl, M1.put A (some false), [], [], ds0, by rw [es1]; exact r1.xl (own_wd hA w1) (own_xe false hA w1) (by omega), (own_xe false hA w1).toXT, put_same, upd_same, rfl, i0⟩, ?_⟩
  rintro j m H2 ⟨em, M2, acc, us, ds, r2, x2, mA, lA, nl, ii⟩
  cases m with
  | zero =>
    have e : j = zs.length := by omega
    subst e
    exact .inl ⟨wk.stop H2 M2 r2.wd x2, k acc A us ds H2 M2 (r2.le (by omega)) (e1.toXT.trans x2) mA (e1.free r.wd w1 hA) lA nl (fin acc ds ii)⟩
  | succ m =>
    have hj : j < zs.length := by omega
    have hq : (m + 1) * κ2 = m * κ2 + κ2 := Nat.succ_mul m κ2
    obtain ⟨gg, yy⟩ := wk.item j zs[j] H2 M2 (List.getElem?_eq_getElem hj) r2.wd x2
    refine .inr ⟨gg, fun H' => ∃ M' acc us ds, RS K (m * κ2 + ρ0) H0 M0 H' M' σ (δ.set i (.own ds)) ∧ XT H1 M1 H' M' ∧ M' A = some false ∧ H' A = some (.lst us) ∧ DnL K H' M' acc us ∧ I (j + 1) acc ds, fun H' h => ⟨m, Nat.lt_succ_self m, by omega, h⟩, fun x H3 y => ?_⟩
    obtain ⟨M3, w3, e3, n3⟩ := yy x H3 y
    have r3 : RS K (κ2 + (m * κ2 + ρ0)) H0 M0 H3 M3 σ (δ.set i (.own ds)) := r2.xl w3 e3 (by omega)
    have r4 := (r3.un v).set n3 v
    have sw : ((((δ.set i (.own ds)).set v .un).set v (.dat zs[j])) : Den) = ((δ.set v .un).set v (.dat zs[j])).set i (.own ds) := by
      rw [List.set_comm _ _ iv, List.set_comm _ _ iv]
    rw [sw] at r4
    have si : ((σ.set v none).set v (some x))[i]? = some (some (.ref l)) := by
      rw [List.getElem?_set, if_neg (Ne.symm iv), List.getElem?_set, if_neg (Ne.symm iv)]
      exact s
    have st := step j zs[j] acc ds (List.getElem?_eq_getElem hj) ii
    refine ⟨?_, tYes_of ?_⟩
    · show wipe ((wipe σ [v]).set v (some x)) [v] = wipe σ [v]
      rw [wipe_set List.mem_cons_self, wipe_wipe]
    · rw [if_pos rfl]
      refine he.run (m * κ2 + ρ0) H0 M0 H3 M3 _ _ ds l _ _ r4 (by rw [List.length_set, List.length_set]; exact li) si st fun y v' ds' H5 M5 r5 x5 n5 _ z => ?_
      cases y with
      | b _ => exact z.elim
      | d y =>
        have mA3 := e3.k2 A mA
        have mA5 := x5.k2 A mA3.1 nAl
        have lA5 : H5 A = some (.lst us) := (mA5.2.trans mA3.2).trans lA
        have nl5 := DnL.xt w3 x5.toXT _ _ (DnL.xt r2.wd e3.toXT _ _ nl)
        have li2 : i < ((δ.set v .un).set v (.dat zs[j])).length := by rw [List.length_set, List.length_set]; exact li
        obtain ⟨l', us', s', ml, nl0', ll, kl⟩ := r5.own i ds' (by rw [List.getElem?_set_self li2])
        have s' : ((σ.set v none).set v (some x))[i]? = some (some (.ref l')) := s'
        rw [si] at s'
        cases s'
        have r6 : RS K (m * κ2 + ρ0) H0 M0 H5 M5 σ (δ.set i (.own ds')) := r3.xw li s x5 r5.wd r5.base r5.cr ml ll kl
        have eA : upd H5 A (.lst (us ++ [v'])) l = H5 l := upd_ne (Ne.symm nAl)
        · refine ⟨us, lA5, by rw [nl5.len]; exact z.1, M5, acc ++ [y], us ++ [v'], ds', ?_, ((x2.trans e3.toXT).trans x5.toXT).trans (wr_xt mA5.1), mA5.1, upd_same, DnL.xt r5.wd (wr_xt mA5.1) _ _ (nl5.app (es := [y]) (us := [v']) ⟨v', [], rfl, n5, rfl⟩), z.2⟩
          have h0A : H0 A = none := r1.old hA
          have own : ∀ (j2 : Nat) (y2 : List D), (δ.set i (.own ds'))[j2]? = some (.own y2) → ∀ a, σ[j2]? = some (some (.ref a)) → a ≠ A := fun j2 y2 e2 a s2 z2 => by
            by_cases h : j2 = i
            · rw [h, s] at s2
              cases s2
              exact nAl z2.symm
            · rw [List.getElem?_set, if_neg (Ne.symm h)] at e2
              obtain ⟨a', vs', s3, _, _, q3, _⟩ := r1.own j2 y2 e2
              rw [s2] at s3
              cases s3
              rw [z2] at q3
              rw [hA] at q3
              cases q3
          exact ⟨r6.w0, wr_wd r6.wd mA5.1, wr_xb r6.base r6.w0 mA5.1 h0A, r6.cr, r6.lim, r6.len, fun j2 d2 e2 => by
            obtain ⟨v2, s2, k2⟩ := r6.dat j2 d2 e2
            exact ⟨v2, s2, Dn.xt r6.wd (wr_xt mA5.1) _ _ k2⟩, fun j2 y2 e2 => by
            obtain ⟨a, vs2, s2, m2, n2, q2, k2⟩ := r6.own j2 y2 e2
            exact ⟨a, vs2, s2, m2, n2, by rw [upd_ne (own j2 y2 e2 a s2)]; exact q2, DnL.xt r6.wd (wr_xt mA5.1) _ _ k2⟩, r6.uniq⟩
/-- y = sorted([e for x in it]) of texts -/
theorem ss_sortLc2 {i v j : Nat} {wi : TI} {ω : TDF} {te : TE} {τ : TD2} (hi : SI K κ1 wi ω) (he : S2 K κ2 i te τ) (iv : i ≠ v) : SS K (κ1 + sizeLine * κ2) (tAsg (tCB (rSortedS K) (tCons (tLc wi (gName v) tYes te [v]) tNil)) (gName j)) (fun DD δ => dLc2 ω τ i v δ fun acc ds => ∃ ys : List Str, acc = ys.map D.str ∧ ys.length < 64 ∧ ∀ zs : List Str, zs.Perm ys → PyProof.Rows.sortedS zs = true → DD.nx ((δ.set i (.own ds)).set j (.dat (.lst (zs.map D.str))))) := ⟨fun ρ0 H0 M0 H M σ δ D DD r q k => by
  refine lc2_run (Q := fun x H1 => rSortedS K [x] H1 fun y H2 => gName j y σ H2 D.nx) hi he iv r q fun acc a us ds H1 M1 r1 x1 m1 n1 l1 nl z => ?_
  obtain ⟨ys, rfl, l64, z⟩ := z
  rw [nl.strs] at l1
  refine ⟨a, ys, rfl, .inl (.of l1), l64, fun zs p pm so hp => ?_⟩
  have w1 := r1.wd
  refine k.nx _ _ _ _ ((r1.xl (new_wd hp w1) (new_xe hp w1) (by omega)).set (d := .lst (zs.map _root_.K.D.str)) ⟨p, _, rfl, upd_same, w1.no hp, strs_dn zs⟩ j) (x1.trans (new_xe hp w1).toXT) (z zs pm so)⟩
/-- y = tuple([e for x in it]) -/
theorem ss_tupLc2 {i v : Nat} {wi : TI} {ω : TDF} {te : TE} {τ : TD2} (hi : SI K κ1 wi ω) (he : S2 K κ2 i te τ) (iv : i ≠ v) : SS K (κ1 + sizeLine * κ2) (tRet (tCB (fun xs H Q => ∃ p ys, xs = [.ref p] ∧ ((SqL K H p ys ∧ ∀ l, H l = none → Q (.ref l) (upd H l (.tup ys))) ∨ (SqT K H p ys ∧ Q (.ref p) H))) (tCons (tLc wi (gName v) tYes te [v]) tNil))) (fun DD δ => dLc2 ω τ i v δ fun acc ds => DD.rt (.tup acc)) := ⟨fun ρ0 H0 M0 H M σ δ D DD r q k => by
  refine lc2_run (Q := fun x H1 => (fun (xs : List V) (H : Hp) (Q : VK) => ∃ p ys, xs = [V.ref p] ∧ ((SqL K H p ys ∧ ∀ l, H l = none → Q (.ref l) (upd H l (.tup ys))) ∨ (SqT K H p ys ∧ Q (.ref p) H))) [x] H1 D.rt) hi he iv r q fun acc a us ds H1 M1 r1 x1 m1 n1 l1 nl z => ?_
  refine ⟨a, us, rfl, .inl ⟨.inl (.of l1), fun p hp => ?_⟩⟩
  have w1 := r1.wd
  exact k.rt (.tup acc) _ _ _ (new_wd hp w1) (r1.base.trans (new_xb hp w1)) (by have := r1.cr; omega) ⟨p, us, rfl, upd_same, DnL.xt w1 (new_xe hp w1).toXT _ _ nl⟩ z⟩
/-! ### methods, new instances -/
def dMeth (C : Addr) (m : Str) (π : List D → (D → Prop) → Prop) (dd : List D) (τ : TDE) (r : TDA) : TDE := fun δ Q => τ δ fun x => ∃ fs, x = .d (.ins C fs) ∧ fs.lookup m = none ∧ r δ fun xs => match allD xs with
  | some ds => π (.ins C fs :: (ds ++ dd)) fun d => Q (.d d)
  | none => False
theorem DnF.nolook {H : Hp} {M : Mk_} {x : Str} : ∀ {fs : List (Str × D)} {ws : List (Str × V)}, DnF K H M fs ws → fs.lookup x = none → ws.lookup x = none
  | [], _, h, _ => by have h : _ = [] := h; rw [h]; rfl
  | (y, c) :: fs, _, ⟨u, us, q, h, k⟩, e => by
    subst q
    unfold List.lookup at e ⊢
    cases z : x == y with
    | true => rw [z] at e; cases e
    | false => rw [z] at e; exact DnF.nolook k e
theorem se_meth {C : Addr} {m : Str} {π : List D → (D → Prop) → Prop} {dvs : List V} {dd : List D} {E : XK} {ta : TE} {τ : TDE} {t : TA} {r : TDA} {c : Nat} (ha : SE K κ1 ta τ) (h : SA K κ2 t r) (hd : ∀ H M, DnL K H M dd dvs) : SE K (κ1 + κ2 + c) (tMeth C m (spD K c π) dvs E ta t) (dMeth C m π dd τ r) := ⟨fun H0 M0 H M σ δ Q Qd s q k => ha.run H0 M0 H M σ δ _ _ s.l.l q fun x v H1 M1 w1 e1 n1 z => by
  obtain ⟨fs, rfl, nl, z⟩ := z
  obtain ⟨a, dx, ws, rfl, hA, nf⟩ := id n1
  refine ⟨a, dx, ws, rfl, hA, nf.nolook nl, h.run H0 M0 H1 M1 σ δ _ _ (s.l.xe w1 e1) z fun xs vs H2 M2 w2 e2 n2 y => ?_⟩
  cases e : allD xs with
  | none => simp only [e] at y
  | some ds =>
    simp only [e] at y
    exact ⟨M2, .ins C fs :: (ds ++ dd), _, by have := (s.xe w2 (e1.trans e2)).cr; have := s.lim; omega, w2, ⟨_, _, rfl, n1.xe w1 e2, (allD_is n2 e).app (hd _ _)⟩, y, fun d v H' M' w' e' n' q' => k (.d d) v H' M' w' ((e1.trans e2).trans e') n' q'⟩⟩
theorem se_methN {C : Addr} {m : Str} {π : List D → (D → Prop) → Prop} {E : XK} {ta : TE} {τ : TDE} {t : TA} {r : TDA} {c : Nat} (ha : SE K κ1 ta τ) (h : SA K κ2 t r) : SE K (κ1 + κ2 + c) (tMeth C m (spD K c π) [] E ta t) (dMeth C m π [] τ r) := se_meth ha h fun _ _ => rfl
/-- C(..): what __init__ leaves of it -/
theorem se_mk {C : Addr} {sp : Sp} {dvs : List V} {E : XK} {t : TA} {r : TDA} {ρ : List DX → (D → Prop) → Prop} (h : SA K κ1 t r)
    (hm : ∀ H0 H M xs vs (Qd : D → Prop), Wd H M → DxL K H0 H M xs vs → ρ xs Qd → ∃ (ws : List (Str × V)) (fs : List (Str × D)), DnF K H M fs ws ∧ Qd (.ins C fs) ∧ ∀ p dx H1 (Q : VK), H1 p = some (.ins C dx []) → (∀ b o, H b = some o → H1 b = some o) → LamX.Tabs TabT.T H1 → (∀ H2, SmT H1 H2 → Q .non (upd H2 p (.ins C dx ws))) → sp (.ref p :: (vs ++ dvs)) H1 Q E) :
    SE K κ1 (tMake C sp dvs E t) (fun δ Q => r δ fun xs => ρ xs fun d => Q (.d d)) := ⟨fun H0 M0 H M σ δ Q Qd s q k => h.run H0 M0 H M σ δ _ _ s q fun xs vs H1 M1 w1 e1 n1 z => by
  obtain ⟨ws, fs, nf, qd, go⟩ := hm H0 H1 M1 xs vs _ w1 n1 z
  intro x dx nx ndx ne
  have st : Same H1 (upd (upd H1 dx (.own x)) x (.ins C dx [])) := fun b o hb => by rw [upd_ne (ne_of_none hb nx), upd_ne (ne_of_none hb ndx)]; exact hb
  refine go x dx _ _ upd_same st (w1.tb.ext st) fun H2 s2 => ⟨rfl, ?_⟩
  have at_ : H2 x = some (.ins C dx []) := s2.k0 _ _ upd_same (fun _ z => nomatch z)
  have s3 : SmT H1 (upd H2 x (.ins C dx ws)) := ⟨fun b o hb n => by rw [upd_ne (ne_of_none hb nx)]; exact s2.k0 _ _ (st b o hb) n, fun b ps hb => by rw [upd_ne (ne_of_none hb nx)]; exact s2.kt _ _ (st b _ hb), fun t => tabs_wr at_ (fun _ z => nomatch z) (fun _ z => nomatch z) (s2.tb (t.ext st))⟩
  obtain ⟨w3, x3⟩ := smt_xe w1 s3
  exact k (.d (.ins C fs)) _ _ M1 w3 (e1.trans x3) ⟨x, dx, ws, rfl, upd_same, DnF.xt w1 x3.toXT _ _ nf⟩ qd⟩
end
end K
namespace Rp
open PySem PySem.Spec PyProof.Rows L2
/-- the promise of a def that may be called where Γ holds of what runs around -/
structure FnH (P : Program) (w : World) (K : PySem.W.Frag) (mg : Str → Option Value) (base : Heap) (CX : CXT) (Γ : Around → List V → Hp → Prop) (k : Nat) (f : Addr) (fd : FuncData) (ps : List Str) (sp : Sp) : Prop where
  len : ∀ vs H Q E, sp vs H Q E → vs.length = ps.length
  go : ∀ (A : Around) (outer : List Env) (s : Shared) (H : Hp) (args : Args) (us : List Value) (vs : List V) (Q : VK) (E : XK), Γ A vs H → Room k A →
    Env0 P w K mg base A outer s H → BindsTo s fd args (ps.zip us) → Vals vs us → sp vs H Q E → codeAny (model P w) A (.call (.ref f) args) (CR CX outer P w H s Q E) s
section
variable {P : Program} {w : World} {K : PySem.W.Frag} {mg : Str → Option Value} {base : Heap} {CX : CXT} {k : Nat} {f : Addr} {fd : FuncData} {ps : List Str} {sp : Sp} {Γ : Around → List V → Hp → Prop}
theorem fn_bodyH {name qual : Str} {params : Arguments} {body : List Stmt} {scope : Scope} {dV kV doc pm cdv ct oc : Value} {an od : Option Addr} {osl : Array (Option Value)} {N : List Str}
    (lk : K.lookup f = some ⟨oc, od, .func (PySem.W.fnOf name qual params body scope dV kV doc pm an cdv ct), osl⟩) (hcd : PySem.W.codeIn K cdv qual = true) (S : FnScope N ps scope) (len : ∀ vs H Q E, sp vs H Q E → vs.length = ps.length)
    (hbody : ∀ (A : Around) (outer : List Env) (s : Shared) (H : Hp) (vs : List V) (Q : VK) (E : XK), Γ A vs H → Room k (A.deeper (envOfC qual scope s.heap.objs.size f cdv)) → sp vs H Q E →
      ∃ t, PSs (cxOf CX P w K mg base N qual scope f cdv A outer s H E) body t ∧ t { nx := fun _ H' => Q .non H', rt := Q } (start N vs) H) :
    FnH P w K mg base CX Γ (k + 1) f (PySem.W.fnOf name qual params body scope dV kV doc pm an cdv ct) ps sp := by
  refine ⟨len, fun A outer s H args us vs Q E gd hr e0 hb rv hsp => ?_⟩
  have here : ∀ b o, base.get? b = some o → s.heap.get? b = some o := fun b o e => (e0.bs b o e).1
  have kx : K.In s.heap := e0.mod.kin.keeps here
  have lim : s.heap.NoLimit := e0.mod.nolimit.keeps here
  have kinds : ∀ y ∈ ps.zip us, scope.names.lookup y.1 = some .local ∨ (scope.names.lookup y.1 = some .cell ∧ ((cellsFrom (s.heap.objs.size + 1) scope.names []).lookup y.1).isSome = true) := by
    rintro ⟨n, v⟩ hy
    exact (S.par n (List.of_mem_zip hy).1).imp id fun q => ⟨q, PySem.W.cellsFrom_some _ _ _ (.inl q)⟩
  refine codeAny_call_function hr.depth (kx _ _ lk) rfl S.co S.gen rfl (PySem.W.codeRec_of kx hcd) (hb _ _ _ _ (wpAny_newFunctionEnv_cells S.kind kinds fun env he s1 ic => ?_))
  subst he
  refine ⟨lim.keeps ic.toInCall.keep, codeAny_func ?_⟩
  obtain ⟨t, ht, hq⟩ := hbody A outer s H vs Q E gd (hr.deeper _) hsp
  have I : L2.Inv (cxOf CX P w K mg base N qual scope f cdv A outer s H E) [] (start N vs) H s1 := inv_start S hr.hd e0 (len _ _ _ _ hsp) rv ic
  refine wpAny_mono (ht.run [] s1 (start N vs) H _ I hq) (fun fl s' hs => ?_) fun e s' hs => hs
  cases fl with
  | next =>
    obtain ⟨σ', H', J, q⟩ := hs
    exact ⟨V.non, H', J.os, J.bare, J.base, J.hok, (rfl : RelV .non Value.none), q⟩
  | ret u =>
    obtain ⟨v, σ', H', J, rv, q⟩ := hs
    exact ⟨v, H', J.os, J.bare, J.base, J.hok, rv, q⟩
  | brk => exact hs.elim fun _ z => z.elim fun _ z => z.2.elim
  | cont => exact hs.elim fun _ z => z.elim fun _ z => z.2.elim
theorem Fun_okH {x qual : Str} {st : Stmt} {N : List Str} (F : Fun K x qual st f fd) (S : FnScope N ps (defScope st)) (len : ∀ vs H Q E, sp vs H Q E → vs.length = ps.length)
    (body : ∀ (cdv : Value) (A : Around) (outer : List Env) (s : Shared) (H : Hp) (vs : List V) (Q : VK) (E : XK), Γ A vs H →
      Room k (A.deeper (envOfC qual (defScope st) s.heap.objs.size f cdv)) → sp vs H Q E →
      ∃ t, PSs (cxOf CX0 P w K mg base N qual (defScope st) f cdv A outer s H E).nox (defBody st) t ∧ t { nx := fun _ H' => Q .non H', rt := Q } (start N vs) H) : FnH P w K mg base CX0 Γ (k + 1) f fd ps sp := by
  obtain ⟨oc, od, kV, doc, pm, an, cdv, ct, osl, rfl, lk, hcd⟩ := F.ex
  exact fn_bodyH lk hcd S len fun A outer s H vs Q E gd hr hsp => let ⟨t, h, q⟩ := body cdv A outer s H vs Q E gd hr hsp; ⟨t, h.nox, q⟩
end
/-- nothing that repr walks stands among the guards that run -/
def GdOk (as : List Addr) (A : Around) : Prop := ∃ g, A.guards = some g ∧ ∀ b ∈ as, Clear g b
section
variable {X : Cx} {n : Nat} {H : Hp} {a C dx f : Addr} {fs : List (Str × V)} {fd : FuncData} {ps : List Str} {sp : Sp} {CX : CXT} {E : XK} {t : Str} {g : List Code} {A : Around} {pins : List (Addr × Obj)} {σ : L2.St} {s : Shared} {Γ : Around → List V → Hp → Prop}
theorem own_runH (F : FnH X.prog X.w X.K X.mg X.base CX Γ n f fd ps sp) (hb : Binds X.K fd ps []) (hx : Passes CX X E) (lo : Low X n g A) (hΓ : Γ A [.ref a] H) (I : Inv X pins σ H s) {Q : VK} (hsp : sp [.ref a] H Q E) :
    wpAny (model X.prog X.w) A (call (.ref f) [.ref a]) (EP X pins σ Q) X.xe s := by
  have e := I.env0
  have e0 : Env0 X.prog X.w X.K X.mg X.base A X.stack s H := ⟨lo.fr.trans e.frames, e.mod, e.bs, e.bsz, e.funs, e.frf, e.hok, e.bare⟩
  have hl := F.len _ _ _ _ hsp
  have bt := hb s [.ref a] I.kIn (by simpa using hl)
  rw [List.append_nil] at bt
  refine wpAny_call (codeAny_mono (F.go A X.stack s H ⟨[.ref a], []⟩ [.ref a] [.ref a] Q E hΓ lo.rm e0 bt (.cons rfl .nil) hsp) fun r s' hq => ?_)
  match r, hq with
  | .error e, hq => exact hx pins σ H s e s' I hq
  | .ok (.ret w), hq => exact I.after hq
theorem clear_in1 {A : Around} : A.in1.guards = A.guards := rfl
theorem says_ownH {as : List Addr} (F : FnH X.prog X.w X.K X.mg X.base CX Γ n f fd ps sp) (hs : PySem.W.findIn X.K (.ref C) "__repr__" = some (some (.ref f))) (hf : PySem.W.isFn X.K (.ref f) = true) (hb : Binds X.K fd ps []) (hx : Passes CX X E)
    (ha : H a = some (.ins C dx fs)) (hΓ : ∀ A H1, Same H H1 → GdOk as A → Γ A [.ref a] H1) (hsp : ∀ H1, Same H H1 → sp [.ref a] H1 (fun v H2 => v = .str t ∧ Same H1 H2) E) : Says X (n + 1) as H (.ref a) t := by
  have turn : ∀ {A : Around} {g : List Code} {pins : List (Addr × Obj)} {s : Shared} {σ : L2.St} {H1 : Hp}, Low X n g A → (∀ b ∈ as, Clear g b) → Inv X pins σ H1 s → Same H H1 →
      wpAny (model X.prog X.w) A (call (.ref f) [.ref a]) (fun r s' => ∃ tk, r = .str t tk ∧ ∃ H2, Inv X pins σ H2 s' ∧ Same H1 H2) X.xe s := fun lo cl I e =>
    wpAny_mono (own_runH F hb hx lo (hΓ _ _ e ⟨_, lo.gd, cl⟩) I (hsp _ e)) (fun r s' q => by
      obtain ⟨v, H2, I2, r2, ev, e2⟩ := q
      subst ev
      obtain ⟨tk, rfl⟩ := r2
      exact ⟨tk, rfl, H2, I2, e2⟩) fun _ _ q => q
  refine ⟨fun A g base pins s σ H1 u lo cl I e ru hz => ?_, fun A g pins s σ H1 u lo cl I e ru hz => ?_⟩
  · cases ru
    obtain ⟨mA, O, _⟩ := ins_get I.hok (e _ _ ha)
    obtain ⟨od, J, _⟩ := O.look
    have hu := lo.rm.units0
    refine wpAny_pyReprUnder_ref (by omega) ?_
    unfold pyReprObjUnder pyReprObjBy
    refine wpAny_bind (wpAny_cRoomFor hu (wpAny_bind (wpAny_bind (J.type.here ((PySem.W.looks_findIn I.kIn hs).here ?_)))))
    show wpAny _ _ (if (some (Value.ref f)).isNone = true then _ else _) _ _ _
    rw [if_neg (by simp)]
    refine wpAny_bind (own_by I.kIn J hs hf ?_)
    show wpAny _ _ (call (.ref f) [.ref a]) _ _ _
    refine wpAny_mono (turn (lo.mono (Nat.le_succ n)) cl I e) (fun r s2 q => ?_) fun _ _ q => q
    obtain ⟨tk, rfl, q⟩ := q
    exact wpAny_bind (wpAny_isInstance (typeIs_str _ _ _) isSubtype_str_str (wpAny_pure ⟨t, tk, rfl, rfl, q⟩))
  · cases ru
    obtain ⟨mA, O, _⟩ := ins_get I.hok (e _ _ ha)
    obtain ⟨od, J, _⟩ := O.look
    obtain ⟨m, hF⟩ := I.fr
    refine PySem.W.repr_K lo.in1.rm.units0 hF I.ok.mod.kin J hs hf (wpAny_mono (turn lo.in1 cl I e) (fun r s2 q => ?_) fun _ _ q => q)
    obtain ⟨tk, rfl, q⟩ := q
    exact ⟨⟨tk, rfl⟩, q⟩
/-- {e!r}, e a tuple -/
theorem obj_tup {as : List Addr} {ts : List Str} {xs : List V} {H1 : Hp} (hq : SqT X.K H a xs) (hna : a ∉ as) (hl : ts.length = xs.length) (hit : ∀ (i : Nat) (x : V), xs[i]? = some x → ∃ t, ts[i]? = some t ∧ Says X n as H x t)
    (lo : Low X (n + 2) g A) (cl : ∀ b ∈ a :: as, Clear g b) (I : Inv X pins σ H1 s) (hs : Same H H1) (hz : (tupleText ts).length ≤ sizeLine) :
    wpAny (model X.prog X.w) A (pyReprObj (.ref a)) (fun r s' => (∃ tk, r = .str (tupleText ts) tk) ∧ ∃ H2, Inv X pins σ H2 s' ∧ Same H1 H2) X.xe s := by
  have hsq : SqT X.K H1 a xs := hq.elim (fun h => .inl (h.elim (fun h => .inl (hs _ _ h)) fun ⟨o, h⟩ => .inr ⟨o, hs _ _ h⟩)) .inr
  obtain ⟨its, rv, ⟨o, ho, hc, na, hd⟩, _⟩ := I.tuple hsq
  have h1 := lo.rm.units
  have hT : s.TypeIs (.ref a) "tuple" := ⟨o, ho, hc⟩
  unfold pyReprObj
  refine wpAny_bind (wpAny_cRoomFor (by omega) ?_)
  refine wpAny_bind (wpAny_specialOf (name := Str.ofString "__repr__") hT PySem.F.slot_tuple_repr.lookup ?_)
  show wpAny _ _ (if (some _ : Option Value).isNone = true then _ else _) _ _ _
  rw [if_neg (by simp)]
  refine wpAny_bind (m := callSpecialIfBound? (.ref a) (Str.ofString "__repr__")) (wpAny_callSpecialIfBound?_slotG (name := Str.ofString "__repr__") hT PySem.F.slot_tuple_repr ?_)
  refine wpAny_call (codeAny_call_builtin_own (Code.quiet_builtin _ (by decide +kernel)) PySem.F.entry_tuple_repr (PySem.F.slot_tuple_repr.check _ _ _ _ _ _ _ _ hT (PySem.F.args_tuple_repr_1 _)
      (tup_body (A := A) (base := 0) (R := callEnd _ _) (lo.mono (by omega)) cl hna hit hl (by omega) hq I hs (by show (if Code.isGuard _ then _ else _) = _; rw [isGuard_tuple_repr]; rfl) (by simp only [Code.weight, isGuard_tuple_repr]; rfl) (by rfl) (by first | rfl | simp [Code.envs, Code.isFrame])
        (fun s2 H2 tk I2 e2 => show wpAny _ _ (isInstance _ (.type "str") >>= fun __do_lift => _) _ _ _ from wpAny_bind (wpAny_isInstance (typeIs_str _ _ _) isSubtype_str_str (wpAny_pure ⟨⟨_, rfl⟩, H2, I2, e2⟩))) fun e s2 he => he)))
def tFmtRT (X : Cx) (n : Nat) (te : TE) : TE := fun σ H Q => te σ H fun v H1 => ∃ (a : Addr) (xs : List V) (ts : List Str) (as : List Addr) (g : List Code), v = .ref a ∧ SqT X.K H1 a xs ∧ a ∉ as ∧ ts.length = xs.length ∧
  (∀ (i : Nat) (x : V), xs[i]? = some x → ∃ t, ts[i]? = some t ∧ Says X n as H1 x t) ∧ X.A.guards = some g ∧ (∀ b ∈ a :: as, Clear g b) ∧ (tupleText ts).length ≤ sizeLine ∧ ∀ H2, Same H1 H2 → Q (.str (tupleText ts)) H2
theorem pe_fmtRT {e : Expr} {te : TE} {pos : Pos} (he : PE X e te) (hr : Room (n + 2) X.A) : PE X (.FormattedValue e 114 none pos) (tFmtRT X n te) := by
  refine ⟨fun pins s σ H Q I h => ?_⟩
  refine wpAny_FormattedValue_repr (thn (he.run pins s σ H _ I h) fun v s1 hv => ?_)
  obtain ⟨x, H1, I1, r1, a, xs, ts, as, g, rfl, hq, hna, hl, hit, hg, cl, hz, q⟩ := hv
  cases r1
  refine thn (obj_tup hq hna hl hit ⟨hr, rfl, hg⟩ cl I1 (Same.refl H1) hz) fun r s2 h2 => ?_
  obtain ⟨⟨tk, rfl⟩, H2, I2, e2⟩ := h2
  exact wpAny_formatField_str ⟨.str (tupleText ts), H2, I2, ⟨tk, rfl⟩, q H2 e2⟩ ⟨.str (tupleText ts), H2, I2.tok _, ⟨_, rfl⟩, q H2 e2⟩ hz
end
end Rp
namespace Rp
open PySem PySem.Spec PyProof.Rows L2
section
variable {X : Cx}
def ipW : TIp := fun x y H Q => ∃ i j, x = .int i ∧ y = .int j ∧ CMulW i j ∧ Q (.int (i * j)) H
theorem ip_mul : PIp X .Mult ipW := by
  intro pins s σ H x y v u Q I r1 r2 h
  obtain ⟨i, j, e1, e2, c, q⟩ := h
  subst e1; subst e2
  obtain ⟨t, rfl⟩ := r1
  obtain ⟨t', rfl⟩ := r2
  exact imul_int ⟨.int _, H, I.tok _, ⟨_, rfl⟩, q⟩ c.ok
variable {CX : CXT} {k : Nat} {f C : Addr} {fd : FuncData} {ps ks : List Str} {sp : Sp} {E : XK} {x m : Str} {p pos apos kpos : Pos} {e o : Expr} {es : List Expr} {kws : List Keyword} {te ta : TE} {t tk : TA} {nm : Option Str} {g : List Value → List Value → List Value} {gV : List V → List V → List V}
/-- f(k = v, ..) -/
theorem pe_callK0 (F : FnOk X.prog X.w X.K X.mg X.base CX k f fd ps sp) (hr : Room k X.A) (hg : Gl X x) (hm : X.mg x = some (.ref f)) (hk : PySem.W.keepIn X.K (.ref f) = true) (hb : KBinds X.K fd ps ks g gV) (hx : Passes CX X E)
    (hkw : PK X kws tk) (hall : (backToKw pos (keywordEach kws X.env)).all (·.1.isSome) = true := by rfl) (hks : (backToKw pos (keywordEach kws X.env)).filterMap (·.1) = ks := by rfl)
    (hdb : (x == ("__debug__" : Str)) = false := by decide)
    (hpl : ((backTo pos (starEach [] X.env)).any (·.1) || (backToKw pos (keywordEach kws X.env)).any (·.1.isNone)) = false := by rfl) :
    PE X (.Call (.Name x p) [] kws pos) (tCallK sp gV E tNil tk) := by
  refine ⟨fun pins s σ H Q I h => ?_⟩
  refine wpAny_Call_Name_kw (ld_glob I hg hm ?_ hdb)
  refine PySem.W.callWith_KW0 (h₀ := X.base) I.ok.mod.kin hk hall ?_ hpl
  refine thn (hkw.run pos pins s σ H _ I h) fun ws s2 ⟨zs, H2, I2, rz, q2⟩ => ⟨I2.kIn, ?_⟩
  rw [hks]
  exact run_fnk (us := []) F hr hb hx I2 .nil rz q2
end
end Rp
namespace K
open PySem L2 Rp
variable [TabT]
section
variable {K : PySem.W.Frag}
structure SIp (K : PySem.W.Frag) (r : TIp) (ρ : DX → DX → (D → Prop) → Prop) : Prop where
  run : ∀ H0 H M x y v u (Q : VK) (Qd : D → Prop), Wd H M → Dx K H0 H M x v → Dx K H0 H M y u → ρ x y Qd → (∀ z w, Dn K H M z w → Qd z → Q w H) → r v u H Q
def ρIp (C : Int → Int → Prop) (g : Int → Int → Int) : DX → DX → (D → Prop) → Prop := fun x y Q => ∃ i j, x = .d (.int i) ∧ y = .d (.int j) ∧ C i j ∧ Q (.int (g i j))
theorem si_add : SIp K (ipI fun i j => i + j) (ρIp (fun _ _ => True) fun i j => i + j) := ⟨fun H0 H M x y v u Q Qd w n1 n2 h k => by
  obtain ⟨i, j, rfl, rfl, _, q⟩ := h
  exact ⟨i, j, n1, n2, k (.int (i + j)) _ rfl q⟩⟩
theorem si_sub : SIp K (ipI fun i j => i - j) (ρIp (fun _ _ => True) fun i j => i - j) := ⟨fun H0 H M x y v u Q Qd w n1 n2 h k => by
  obtain ⟨i, j, rfl, rfl, _, q⟩ := h
  exact ⟨i, j, n1, n2, k (.int (i - j)) _ rfl q⟩⟩
theorem si_mul : SIp K ipW (ρIp CMulW fun i j => i * j) := ⟨fun H0 H M x y v u Q Qd w n1 n2 h k => by
  obtain ⟨i, j, rfl, rfl, c, q⟩ := h
  exact ⟨i, j, n1, n2, c, k (.int (i * j)) _ rfl q⟩⟩
def dsAug (i : Nat) (τ : TDE) (ρ : DX → DX → (D → Prop) → Prop) : TDS := fun D δ => dVar i δ fun x => τ δ fun y => ρ x y fun z => D.nx (δ.set i (.dat z))
theorem ss_aug {t : TE} {τ : TDE} {r : TIp} {ρ : DX → DX → (D → Prop) → Prop} (i : Nat) (h : SE K κ1 t τ) (hr : SIp K r ρ) : SS K κ1 (tAug i t r) (dsAug i τ ρ) := ⟨fun ρ0 H0 M0 H M σ δ D DD s q k => by
  refine (se_var (K := K) i).run H0 M0 H M σ δ (fun x H1 => t σ H1 fun y H2 => r x y H2 fun z H3 => D.nx (σ.set i (some z)) H3) _ (s.le (by omega)) q fun x v H1 M1 w1 e1 n1 z => ?_
  exact h.run H0 M0 H1 M1 σ δ _ _ (s.xl w1 e1 (by omega)) z fun y u H2 M2 w2 e2 n2 z2 => hr.run H0 H2 M2 x y v u _ _ w2 (n1.xe w1 e2) n2 z2 fun z w n z3 => k.nx _ _ _ _ ((s.xl w2 (e1.trans e2) (by omega)).set n i) (e1.trans e2).toXT z3⟩
/-- f(e, .., k = v, ..): G puts the values in the parameters' order -/
def dCallK (π : List D → (D → Prop) → Prop) (G : List D → List D → List D) (r rk : TDA) : TDE := fun δ Q => r δ fun xs => rk δ fun zs => match allD xs, allD zs with
  | some ds, some es => π (G ds es) fun d => Q (.d d)
  | _, _ => False
theorem DxL.len {H0 H : Hp} {M : Mk_} : ∀ {xs : List DX} {vs : List V}, DxL K H0 H M xs vs → vs.length = xs.length
  | [], _, h => by have h : _ = [] := h; rw [h]; rfl
  | _ :: _, _, ⟨u, us, e, _, k⟩ => by rw [e, List.length_cons, List.length_cons, DxL.len k]
theorem se_callK {π : List D → (D → Prop) → Prop} {gV : List V → List V → List V} {G : List D → List D → List D} {E : XK} {t tk : TA} {r rk : TDA} {c : Nat} (h : SA K κ1 t r) (hk : SA K κ2 tk rk)
    (hg : ∀ H M ds es vs us, DnL K H M ds vs → DnL K H M es us → DnL K H M (G ds es) (gV vs us)) : SE K (κ1 + κ2 + c) (tCallK (spD K c π) gV E t tk) (dCallK π G r rk) := ⟨fun H0 M0 H M σ δ Q Qd s q k => h.run H0 M0 H M σ δ _ _ s.l.l q fun xs vs H1 M1 w1 e1 n1 z => hk.run H0 M0 H1 M1 σ δ _ _ (s.l.xe w1 e1) z fun zs us H2 M2 w2 e2 n2 z => by
  cases e : allD xs with
  | none => simp only [e] at z
  | some ds =>
    cases e' : allD zs with
    | none => simp only [e, e'] at z
    | some es =>
      simp only [e, e'] at z
      exact ⟨M2, G ds es, _, by have := (s.xe w2 (e1.trans e2)).cr; have := s.lim; omega, w2, hg H2 M2 ds es vs us (allD_is (n1.xe w1 e2) e) (allD_is n2 e'), z, fun d v H' M' w' e'' n' q' => k (.d d) v H' M' w' ((e1.trans e2).trans e'') n' q'⟩⟩
/-- a def with defaults over data -/
theorem okFD {P : Program} {w : World} {mg : Str → Option Value} {base : Heap} {x qual : Str} {params : Arguments} {body : List Stmt} {scope : Scope} {dvs : List V} {kws : List (Str × V)} {f : Addr} {fd : FuncData} {N ps : List Str} {k c : Nat} {π : List D → (D → Prop) → Prop}
    (F : FunD K x qual params body scope dvs kws f fd) (S : FnScope N ps scope) (len : ∀ ds Q, π ds Q → ds.length = ps.length)
    (hbody : ∀ (cdv : Value) (A : Around) (outer : List Env) (s : Shared) (H : Hp) (E : XK), Room k (A.deeper (PyProof.Rows.envOfC qual scope s.heap.objs.size f cdv)) →
      ∃ t τ c', PSs (cxOf CX0 P w K mg base N qual scope f cdv A outer s H E).nox body t ∧ SS K c' t τ ∧ c' ≤ c ∧ ∀ ds Q, π ds Q → τ { nx := fun _ => Q .non, rt := Q } (dstart N.length ds)) : FnOk P w K mg base CX0 (k + 1) f fd ps (spD K c π) := by
  refine FunD_ok0 F S (fun vs H Q E h => ?_) (fun cdv A outer s H vs Q E hr h => ?_)
  · obtain ⟨M, ds, Qd, _, _, n, p, _⟩ := h
    rw [n.len]
    exact len _ _ p
  · obtain ⟨M, ds, Qd, l, wd, n, p, q⟩ := h
    obtain ⟨t, τ, c', h1, h2, hc, h3⟩ := hbody cdv A outer s H E hr
    exact ⟨t, h1, run_body wd l n h2 hc (h3 ds Qd p) q⟩
/-- a def where no guard runs, over data -/
theorem okGD {P : Program} {w : World} {mg : Str → Option Value} {base : Heap} {x qual : Str} {st : Stmt} {f : Addr} {fd : FuncData} {N ps : List Str} {k c : Nat} {π : List D → (D → Prop) → Prop} (F : Fun K x qual st f fd) (S : FnScope N ps (defScope st)) (len : ∀ ds Q, π ds Q → ds.length = ps.length)
    (hbody : ∀ (cdv : Value) (A : Around) (outer : List Env) (s : Shared) (H : Hp) (E : XK), A.guards = some [] → Room k (A.deeper (PyProof.Rows.envOfC qual (defScope st) s.heap.objs.size f cdv)) →
      ∃ t τ c', PSs (cxOf CX0 P w K mg base N qual (defScope st) f cdv A outer s H E).nox (defBody st) t ∧ SS K c' t τ ∧ c' ≤ c ∧ ∀ ds Q, π ds Q → τ { nx := fun _ => Q .non, rt := Q } (dstart N.length ds)) : FnG P w K mg base CX0 (k + 1) f fd ps (spD K c π) := by
  refine Fun_okG0 F S (fun vs H Q E h => ?_) (fun cdv A outer s H vs Q E gd hr h => ?_)
  · obtain ⟨M, ds, Qd, _, _, n, p, _⟩ := h
    rw [n.len]
    exact len _ _ p
  · obtain ⟨M, ds, Qd, l, wd, n, p, q⟩ := h
    obtain ⟨t, τ, c', h1, h2, hc, h3⟩ := hbody cdv A outer s H E gd hr
    exact ⟨t, h1, run_body wd l n h2 hc (h3 ds Qd p) q⟩
/-- xs * n of a list -/
theorem sf_rep {ta tb : TE} {a b : TDE} (ha : SE K κ1 ta a) (hb : SE K κ2 tb b) : SF K (κ1 + κ2) (tOp rRep ta tb) (fun δ Q => a δ fun x => b δ fun y => ∃ ds k, x.get = .lst ds ∧ y = .d (.int k) ∧ -(2 ^ 63) ≤ k ∧ k < 2 ^ 63 ∧ ds.length * k.toNat ≤ sizeLine ∧ Q (repD ds k.toNat)) := ⟨fun H0 M0 H M σ δ Q Qd s h k =>
  ha.run H0 M0 H M σ δ _ _ s.l h fun x v H1 M1 w1 e1 n1 h1 => hb.run H0 M0 H1 M1 σ δ _ _ (s.xe w1 e1) h1 fun y u H2 M2 w2 e2 n2 h2 => by
    obtain ⟨ds, j, ex, rfl, b1, b2, lz, q⟩ := h2
    obtain ⟨a, vs, rfl, l, nl⟩ := lst_at (n1.xe w1 e2) ex
    have e := e1.trans e2
    exact ⟨a, j, vs, rfl, n2, l, b1, b2, by rw [nl.len]; exact lz, fun p hp => k _ p _ _ (M2.put p (some false)) (own_wd hp w2) (e.trans (own_xe false hp w2)) put_same (e.free s.wd w2 hp) upd_same (DnL.xt w2 (own_xe false hp w2).toXT _ _ (nl.rep _)) q⟩⟩
end
end K
namespace K
open PySem L2 Rp
variable [TabT]
section
variable {K : PySem.W.Frag}
/-- [f x for x in ds] -/
def dLcM (ω : TDF) (γ : DX → Den → (Den → Prop) → Prop) (c : TDT) (τ : TDE) (vs : List Nat) : TDF := fun δ Q => ω δ fun ds => ds.length < sizeLine ∧ ∃ f : D → D, (∀ d ∈ ds, ∀ P : Option D → Prop, P (some (f d)) → stp γ c τ vs δ d P) ∧ Q (ds.map f)
/-- [.. for x in ds], what is made of each as R says -/
def dLcR (ω : TDF) (γ : DX → Den → (Den → Prop) → Prop) (c : TDT) (τ : TDE) (vs : List Nat) : TDF := fun δ Q => ω δ fun ds => ds.length < sizeLine ∧ ∃ R : Nat → D → D → Prop, (∀ (k : Nat) (d : D), ds[k]? = some d → ∀ P : Option D → Prop, (∀ y, R k d y → P (some y)) → stp γ c τ vs δ d P) ∧ ∀ acc : List D, acc.length = ds.length → (∀ (k : Nat) (d y : D), ds[k]? = some d → acc[k]? = some y → R k d y) → Q acc
/-- [f x for x in ds if p x] -/
def dLcF (ω : TDF) (γ : DX → Den → (Den → Prop) → Prop) (c : TDT) (τ : TDE) (vs : List Nat) : TDF := fun δ Q => ω δ fun ds => ds.length < sizeLine ∧ ∃ (p : D → Bool) (f : D → D), (∀ d ∈ ds, ∀ P : Option D → Prop, P (if p d then some (f d) else none) → stp γ c τ vs δ d P) ∧ Q ((ds.filter p).map f)
section
variable {wi : TI} {ω : TDF} {g : TG} {γ : DX → Den → (Den → Prop) → Prop} {is vs : List Nat} {tt : TT} {c : TDT} {te : TE} {τ : TDE}
theorem lcR_in {ds : List D} {Q : List D → Prop} {δ : Den} (lz : ds.length < sizeLine) (R : Nat → D → D → Prop) (st : ∀ (k : Nat) (d : D), ds[k]? = some d → ∀ P : Option D → Prop, (∀ y, R k d y → P (some y)) → stp γ c τ vs δ d P) (q : ∀ acc : List D, acc.length = ds.length → (∀ (k : Nat) (d y : D), ds[k]? = some d → acc[k]? = some y → R k d y) → Q acc) :
    ∃ I : Nat → List D → Prop, I 0 [] ∧ (∀ (i : Nat) (d : D) acc, ds[i]? = some d → I i acc → stp γ c τ vs δ d fun o => match o with
      | some y => acc.length < sizeLine ∧ I (i + 1) (acc ++ [y])
      | none => I (i + 1) acc) ∧ ∀ acc, I ds.length acc → Q acc := by
  refine ⟨fun k acc => acc.length = k ∧ k ≤ ds.length ∧ ∀ (j : Nat) (d y : D), ds[j]? = some d → acc[j]? = some y → R j d y, ⟨rfl, Nat.zero_le _, fun j d y _ e => by cases e⟩, fun k d acc e ⟨l1, l2, a⟩ => ?_, fun acc ⟨l1, _, a⟩ => q acc l1 a⟩
  have hk : k < ds.length := (List.getElem?_eq_some_iff.mp e).1
  refine st k d e _ fun y hy => ⟨by omega, by rw [List.length_append, l1]; rfl, hk, fun j d' y' e1 e2 => ?_⟩
  by_cases h : j < acc.length
  · rw [List.getElem?_append_left h] at e2
    exact a j d' y' e1 e2
  · rw [List.getElem?_append_right (by omega)] at e2
    cases h0 : j - acc.length with
    | zero =>
      rw [h0] at e2
      have hj : j = k := by omega
      subst hj
      rw [e] at e1
      cases e1
      cases e2
      exact hy
    | succ m => rw [h0] at e2; cases e2
theorem sf_lcR (hi : SIB K κ1 wi ω) (hg : SG K g γ is) (hs : ∀ i ∈ is, i ∈ vs) (hc : ST K κ2 tt c) (he : SE K κ3 te τ) : SF K (κ1 + sizeLine * (κ2 + κ3)) (tLc wi g tt te vs) (dLcR ω γ c τ vs) :=
  sf_lcX (fun ds Q δ => ds.length < sizeLine ∧ ∃ R : Nat → D → D → Prop, (∀ (k : Nat) (d : D), ds[k]? = some d → ∀ P : Option D → Prop, (∀ y, R k d y → P (some y)) → stp γ c τ vs δ d P) ∧ ∀ acc : List D, acc.length = ds.length → (∀ (k : Nat) (d y : D), ds[k]? = some d → acc[k]? = some y → R k d y) → Q acc) hi hg hs hc he fun ds Q δ ⟨lz, R, st, q⟩ => ⟨Nat.le_of_lt lz, lcR_in lz R st q⟩
theorem sf_lcM (hi : SIB K κ1 wi ω) (hg : SG K g γ is) (hs : ∀ i ∈ is, i ∈ vs) (hc : ST K κ2 tt c) (he : SE K κ3 te τ) : SF K (κ1 + sizeLine * (κ2 + κ3)) (tLc wi g tt te vs) (dLcM ω γ c τ vs) := by
  refine sf_lcX (fun ds Q δ => ds.length < sizeLine ∧ ∃ f : D → D, (∀ d ∈ ds, ∀ P : Option D → Prop, P (some (f d)) → stp γ c τ vs δ d P) ∧ Q (ds.map f)) hi hg hs hc he fun ds Q δ ⟨lz, f, st, q⟩ => ⟨Nat.le_of_lt lz, lcR_in lz (fun _ d y => y = f d) (fun k d e P hP => st d (List.mem_of_getElem? e) P (hP _ rfl)) fun acc l a => ?_⟩
  have e : acc = ds.map f := by
    apply List.ext_getElem?
    intro i
    rw [List.getElem?_map]
    cases h1 : ds[i]? with
    | none =>
      have : ds.length ≤ i := List.getElem?_eq_none_iff.mp h1
      rw [List.getElem?_eq_none (by omega)]
      rfl
    | some d =>
      have hi : i < ds.length := (List.getElem?_eq_some_iff.mp h1).1
      have h2 : acc[i]? = some acc[i] := List.getElem?_eq_getElem (by omega)
      rw [h2, a i d _ h1 h2]
      rfl
  rw [e]
  exact q
theorem sf_lcF (hi : SIB K κ1 wi ω) (hg : SG K g γ is) (hs : ∀ i ∈ is, i ∈ vs) (hc : ST K κ2 tt c) (he : SE K κ3 te τ) : SF K (κ1 + sizeLine * (κ2 + κ3)) (tLc wi g tt te vs) (dLcF ω γ c τ vs) := by
  refine sf_lcX (fun ds Q δ => ds.length < sizeLine ∧ ∃ (p : D → Bool) (f : D → D), (∀ d ∈ ds, ∀ P : Option D → Prop, P (if p d then some (f d) else none) → stp γ c τ vs δ d P) ∧ Q ((ds.filter p).map f)) hi hg hs hc he fun ds Q δ ⟨lz, p, f, st, q⟩ => ?_
  refine ⟨Nat.le_of_lt lz, fun k acc => k ≤ ds.length ∧ acc = ((ds.take k).filter p).map f, ⟨Nat.zero_le _, rfl⟩, fun k d acc e ⟨l, a⟩ => ?_, fun acc ⟨_, a⟩ => by rw [a, List.take_length]; exact q⟩
  have hk : k < ds.length := (List.getElem?_eq_some_iff.mp e).1
  have et : ds.take (k + 1) = ds.take k ++ [d] := by rw [List.take_add_one, e]; rfl
  have la : acc.length ≤ k := by
    rw [a, List.length_map]
    exact Nat.le_trans (List.length_filter_le _ _) (by rw [List.length_take]; omega)
  refine st d (List.mem_of_getElem? e) _ ?_
  have ek : ((ds.take (k + 1)).filter p).map f = acc ++ (([d].filter p).map f) := by rw [et, List.filter_append, List.map_append, ← a]
  cases hp : p d with
  | true =>
    rw [if_pos rfl]
    exact ⟨by omega, hk, by show acc ++ [f d] = _; rw [ek, List.filter_cons, hp]; rfl⟩
  | false =>
    rw [if_neg Bool.false_ne_true]
    exact ⟨hk, by show acc = _; rw [ek, List.filter_cons, hp]; simp⟩
end
theorem rngD_len {lo : Int} {n : Nat} : (rngD lo n).length = n := by unfold rngD; rw [List.length_map, List.length_range]
theorem rngD_at {lo : Int} {n i : Nat} {d : D} (h : (rngD lo n)[i]? = some d) : i < n ∧ d = .int (lo + (i : Nat)) := by
  have hi : i < n := by
    have := (List.getElem?_eq_some_iff.mp h).1
    rw [rngD_len] at this
    exact this
  refine ⟨hi, ?_⟩
  unfold rngD at h
  rw [List.getElem?_map, List.getElem?_range hi] at h
  exact (Option.some.inj h).symm
theorem cutD_from (xs : List D) (k : Nat) : cutD xs (some (k : Int)) none = xs.drop k := by
  unfold cutD
  rw [HT.sIx_nat, HT.sIx_none, List.take_of_length_le (by rw [List.length_drop]; omega)]
  by_cases h : k ≤ xs.length
  · rw [Nat.min_eq_left h]
  · rw [Nat.min_eq_right (by omega), List.drop_of_length_le (Nat.le_refl _), List.drop_of_length_le (by omega)]
theorem cutD_to (xs : List D) (k : Nat) : cutD xs none (some (k : Int)) = xs.take k := by
  unfold cutD
  rw [HT.sIx_none, HT.sIx_nat, List.drop_zero, Nat.sub_zero]
  by_cases h : k ≤ xs.length
  · rw [Nat.min_eq_left h]
  · rw [Nat.min_eq_right (by omega), List.take_of_length_le (Nat.le_refl _), List.take_of_length_le (by omega)]
end
end K
namespace K
open PySem L2 Rp
theorem bF {b : Bool} {X Y : Prop} (h : b = false) (y : Y) : (b = true → X) ∧ (b = false → Y) := ⟨fun z => (by rw [h] at z; exact (nomatch z)), fun _ => y⟩
theorem bT {b : Bool} {X Y : Prop} (h : b = true) (x : X) : (b = true → X) ∧ (b = false → Y) := ⟨fun _ => x, fun z => (by rw [h] at z; exact (nomatch z))⟩
structure MtC (K : PySem.W.Frag) (C : Addr) (x : Str) (f : Addr) (fd : FuncData) (ps : List Str) : Prop where
  m : Meth K C x f
  b : Binds K fd ps []
theorem nm_len {x : Str} (h : nmV (.str x) = true) : 1 ≤ x.length ∧ x.length ≤ 8 := by
  unfold nmV at h
  simp only [Bool.and_eq_true, decide_eq_true_eq] at h
  omega
theorem wh_str {K : PySem.W.Frag} {H : Hp} {x : Str} : Wh K H (.str x) := ⟨_, false, false, .base (.str _), kit_ty (by decide +kernel), kit_ty (by decide +kernel), rfl⟩
theorem ws_str {K : PySem.W.Frag} {H : Hp} {x : Str} : Ws K H (.str x) := ⟨_, .base (.str _), (kit_ty (by decide +kernel) : PySem.W.kitOne K (.type "str") (.type "str") = some true)⟩
theorem ws_int {K : PySem.W.Frag} {H : Hp} {i : Int} : Ws K H (.int i) := ⟨_, .base (.int _), (kit_ty (by decide +kernel) : PySem.W.kitOne K (.type "int") (.type "str") = some false)⟩
theorem dec_int (i j : Int) : decide (V.int i = V.int j) = decide (i = j) := decide_eq_decide.mpr ⟨fun z => by injection z, fun z => by rw [z]⟩
theorem dec_str (i j : Str) : decide (V.str i = V.str j) = decide (i = j) := decide_eq_decide.mpr ⟨fun z => by injection z, fun z => by rw [z]⟩
theorem ne_int {i j : Int} (h : i = j) : (if true = true then !decide (V.int i = V.int j) else decide (V.int i = V.int j)) = false := by
  rw [if_pos rfl, decide_eq_true (by rw [h])]
  rfl
theorem ne_int' {i j : Int} (h : i ≠ j) : (if true = true then !decide (V.int i = V.int j) else decide (V.int i = V.int j)) = true := by
  rw [if_pos rfl, decide_eq_false (fun z => h (by injection z))]
  rfl
theorem ne_str {i j : Str} (h : i = j) : (if true = true then !decide (V.str i = V.str j) else decide (V.str i = V.str j)) = false := by
  rw [if_pos rfl, decide_eq_true (by rw [h])]
  rfl
end K
namespace K
open PySem L2 Rp
variable [TabT]
def top (i : Nat) : Stmt := PySem.Challenge.pw_casknotes_k10_notes_equal_and_shown.main.body.getD i (.Pass ⟨0, 0, 0, 0⟩)
abbrev sMade : Stmt := top 15
abbrev sNumeral : Stmt := top 16
abbrev sShow : Stmt := top 17
abbrev sWhole : Stmt := top 23
abbrev sName : Stmt := top 24
abbrev sGrains : Stmt := top 27
abbrev sMark : Stmt := top 26
abbrev sDay : Stmt := top 28
abbrev sRising : Stmt := top 25
abbrev sNInit : Stmt := inClass (top 30) 0
abbrev sNEq : Stmt := inClass (top 30) 1
abbrev sNStr : Stmt := inClass (top 30) 2
abbrev sNRepr : Stmt := inClass (top 30) 3
abbrev sInit : Stmt := inClass (top 32) 0
abbrev sEq : Stmt := inClass (top 32) 1
abbrev sPart : Stmt := top 35
abbrev sParts : Stmt := top 36
abbrev sCInit : Stmt := inClass (top 37) 0
abbrev sCEq : Stmt := inClass (top 37) 1
abbrev sDeck : Stmt := top 39
abbrev sDraw : Stmt := top 40
abbrev sLNames : Stmt := top 41
abbrev sLDay : Stmt := top 42
abbrev sLGrains : Stmt := top 43
abbrev sLFields : Stmt := top 44
abbrev sLOthers : Stmt := top 45
abbrev sLTold : Stmt := top 46
abbrev sLShown : Stmt := top 47
abbrev sLRight : Stmt := top 48
abbrev sLaw : Stmt := top 49
section
variable {P : Program} {w : World} {K : PySem.W.Frag} {mg : Str → Option Value} {base : Heap}
theorem scWhole : FnScope ["thing"] ["thing"] (defScope sWhole) := ⟨rfl, rfl, rfl, by decide +kernel, rfl, by decide +kernel, by decide +kernel⟩
theorem ok_wholeV {f : Addr} {fd : FuncData} (F : Fun K "is_whole" "is_whole" sWhole f fd) (B : Blt mg) : FnOk P w K mg base CX0 1 f fd ["thing"] (spWholeV K) := by
  refine F.ok scWhole (fun vs H Q E h => ?_) (fun cdv A outer s H vs Q E hr h => ?_)
  · obtain ⟨v, rfl, _⟩ := h
    rfl
  · obtain ⟨v, rfl, ⟨tv, b1, b2, ty, k1, k2, ev⟩, k⟩ := h
    refine ⟨_, pss_one (ps_ret (pe_and (pe_callB call_isi (by rfl) B.isi (by decide +kernel) (pa_cons (pv 0) (pa_cons (pe_bltn (v := .ty "int") (by rfl) B.int (by decide +kernel) rfl) pa_nil)))
      (pe_one (pe_not (pe_callB call_isi (by rfl) B.isi (by decide +kernel) (pa_cons (pv 0) (pa_cons (pe_bltn (v := .ty "bool") (by rfl) B.bool (by decide +kernel) rfl) pa_nil))))))), ?_⟩
    refine ⟨_, rfl, _, .ty "int", _, _, b1, rfl, .ty _, ty, k1, b1, rfl, ?_⟩
    cases b1 with
    | true =>
      refine iteT ⟨_, rfl, _, .ty "bool", _, _, b2, rfl, .ty _, ty, k2, b2, rfl, ?_⟩
      rw [ev] at k
      exact k
    | false =>
      rw [ev] at k
      exact k
theorem scShow : FnScope ["number", "blocks", "low"] ["number"] (defScope sShow) := ⟨rfl, rfl, rfl, by decide +kernel, rfl, by decide +kernel, by decide +kernel⟩
theorem ok_show {f : Addr} {fd : FuncData} {z : Int} {zt : Tok} (F : Fun K "show_whole" "show_whole" sShow f fd) (hst : mg "str" = none) (hrv : mg "reversed" = none) (hB : mg "BLOCK" = some (.int z zt)) (hz : (2 : Int) ^ 1600 ≤ z) :
    FnOk P w K mg base CX0 1 f fd ["number"] spShow := by
  refine F.ok scShow (fun vs H Q E h => ?_) (fun cdv A outer s H vs Q E hr h => ?_)
  · obtain ⟨n, rfl, _⟩ := h
    rfl
  · obtain ⟨n, rfl, n0, nz, k⟩ := h
    refine ⟨_, pss_cons (ps_set (i := 1) scShow.nd rfl (Or.inl rfl) (pe_lst pa_nil))
      (pss_cons (ps_while PassesOwn.never (pt_cmpR op_ge (pv 0) (pe_glob (v := .int z) rfl hB ⟨_, rfl⟩) (nomark _)) pss_never)
      (pss_cons (ps_expr (pe_bm PySem.F.plainAttrs_list PySem.F.slot_list_append PySem.F.type_list_append mt_append (pv 1) (pa_cons (pe_callTy call_str_int (by rfl) hst (by decide +kernel) (pa_cons (pv 0) pa_nil)) pa_nil)))
      (pss_one (ps_ret (pe_joinRev rfl (by rfl) hrv pe_str (pv 1)))))), ?_⟩
    refine ⟨Nat.zero_le _, fun l hl => ?_⟩
    have hlt : ¬ z ≤ n := by
      have h1 : n.natAbs < 2 ^ 1600 := nz
      have h2 : (n.natAbs : Int) = n := by omega
      have h3 : ((2 ^ 1600 : Nat) : Int) = (2 : Int) ^ 1600 := by norm_cast
      have h4 : (n.natAbs : Int) < ((2 ^ 1600 : Nat) : Int) := Int.ofNat_lt.mpr h1
      rw [h2, h3] at h4
      exact Int.not_le.mpr (Int.lt_of_lt_of_le h4 hz)
    refine while_by (fun σ H' => H' = upd H l (.lst []) ∧ σ = [some (.int n), some (.ref l), none]) (fun _ _ => 0) ⟨rfl, rfl⟩ ?_ ?_
    · rintro σ H' ⟨rfl, rfl⟩
      refine ⟨_, rfl, _, _, rfl, rfl, _, rfl, ?_⟩
      rw [decide_eq_false hlt]
      refine iteF ?_
      refine ⟨_, rfl, .inl ⟨rfl, _, SqL.of upd_same⟩, _, rfl, _, rfl, Nat.lt_trans (nz.log (by decide)) (by decide), l, _, _, rfl, rfl, upd_same, by decide, ?_⟩
      have ln := nT_len nz
      refine ⟨"", rfl, _, rfl, l, [nT n], rfl, SqL.of upd_same, ?_, ?_⟩
      · simp only [List.map_cons, List.map_nil, List.sum_cons, List.sum_nil, List.length_cons, List.length_nil]
        have e0 : ("" : Str).length = 0 := by decide +kernel
        rw [e0]
        omega
      · refine k _ fun b o e => ?_
        rw [upd_ne (ne_of_none e hl), upd_ne (ne_of_none e hl)]
        exact e
    · rintro σ H' Q1 Q2 hQ ⟨v, e, i, j, h1, h2, c, h3, q⟩
      exact ⟨v, e, i, j, h1, h2, c, h3, hQ _ _ q⟩
theorem scMade : FnScope ["text", "signs", "sign"] ["text", "signs"] (defScope sMade) := ⟨rfl, rfl, rfl, by decide +kernel, rfl, by decide +kernel, by decide +kernel⟩
theorem ok_made {f : Addr} {fd : FuncData} (F : Fun K "made_of" "made_of" sMade f fd) (hal : mg "all" = none) : FnOk P w K mg base CX0 1 f fd ["text", "signs"] spMade := by
  refine F.ok scMade (fun vs H Q E h => ?_) (fun cdv A outer s H vs Q E hr h => ?_)
  · obtain ⟨z, y, rfl, _⟩ := h
    rfl
  · obtain ⟨z, y, rfl, hz, k⟩ := h
    refine ⟨_, (pss_one (ps_ret (pe_callB (cr_all rfl) (by rfl) hal (by decide +kernel) (pa_cons (pe_lc (own := [("sign", 2)]) (g := gName 2) (tt := tYes) (by rfl) scMade.nd (pi_str (pv 0)) (blkOk_by (own := [("sign", 2)]) (N := ["text", "signs", "sign"]) (sc := defScope sMade) (by decide +kernel)) (fun _ _ _ _ _ => (pg_name (i := 2) scMade.nd rfl (Or.inl rfl))) (fun _ _ _ _ _ => pts_nil) (fun _ _ _ _ _ => (pe_cmpR op_in_sign (pv 2) (pv 1) (by with_unfolding_all rfl)))) pa_nil)))), ?_⟩
    refine ⟨_, rfl, z, rfl, fun D hD => ?_⟩
    refine lc_str (fun i H2 => Same H H2 ∧ H2 D = some (.lst (((z.cps.toList.map (inL y)).take i).map V.bl))) ?_ ?_ ?_
    · exact ⟨same_upd hD, upd_same⟩
    · rintro i c H2 hc ⟨s2, hA⟩
      have hi : i < z.cps.size := (Array.getElem?_eq_some_iff.mp hc).1
      have hc' : z.cps.toList[i]? = some c := by rw [Array.getElem?_toList]; exact hc
      refine ⟨rfl, tYes_of ?_⟩
      rw [if_pos rfl]
      refine ⟨_, rfl, _, rfl, c, y, rfl, rfl, _, hA, ?_, ?_, ?_⟩
      · rw [List.length_map, List.length_take]
        exact Nat.lt_of_le_of_lt (Nat.min_le_left _ _) (Nat.lt_of_lt_of_le hi (Nat.le_trans hz (by decide)))
      · exact fun y o e => by
          rw [upd_ne (ne_of_none e hD)]
          exact s2 y o e
      · rw [upd_same, List.take_add_one, List.getElem?_map, hc', List.map_append]
        rfl
    · rintro H2 ⟨s2, hA⟩
      have e : (z.cps.toList.map (inL y)).take z.cps.size = z.cps.toList.map (inL y) := List.take_of_length_le (by rw [List.length_map]; simp)
      rw [e] at hA
      refine ⟨D, z.cps.toList.map (inL y), rfl, SqL.of hA, ?_⟩
      have e2 : (z.cps.toList.map (inL y)).all id = z.cps.toList.all (inL y) := by rw [List.all_map]; rfl
      rw [e2]
      exact k H2 s2
theorem scName : FnScope ["thing"] ["thing"] (defScope sName) := ⟨rfl, rfl, rfl, by decide +kernel, rfl, by decide +kernel, by decide +kernel⟩
theorem ok_name {f fM : Addr} {fd fdM : FuncData} {zM : Int} {tM : Tok} {zL : Str} {tL : Tok} (F : Fun K "is_name" "is_name" sName f fd) (B : Blt mg) (hst : mg "str" = none) (hln : mg "len" = none) (gM : mg "MOST_LETTERS" = some (.int zM tM)) (eM : zM = 8) (gL : mg "LETTERS" = some (.str zL tL)) (eL : zL = LETS)
    (cM : Cl K mg "made_of" fM fdM ["text", "signs"]) (GM : FnOk P w K mg base CX0 1 fM fdM ["text", "signs"] spMade) : FnOk P w K mg base CX0 2 f fd ["thing"] (spQ K nmV) := by
  refine F.ok scName (fun vs H Q E h => ?_) (fun cdv A outer s H vs Q E hr h => ?_)
  · obtain ⟨v, rfl, _⟩ := h
    rfl
  · obtain ⟨v, rfl, wh, ⟨tv, ty, ks⟩, tk, k⟩ := h
    refine ⟨_, (pss_cons (ps_if (pt_not (pt_val (pe_callB call_isi (by rfl) B.isi (by decide +kernel) (pa_cons (pv 0) (pa_cons (pe_bltn (v := .ty "str") (by rfl) hst (by decide +kernel) rfl) pa_nil))))) (pss_one (ps_ret pe_bl)) pss_nil)
    (pss_one (ps_ret (pe_and (pe_chain op_le op_le pe_int (pe_callB call_len_str (by rfl) hln PySem.boot_len (pa_cons (pv 0) pa_nil)) (pe_glob (v := .int zM) rfl gM ⟨_, rfl⟩)) (pe_one (pe_call GM (hr.mono (by decide)) (by rfl) cM.g cM.k cM.b .nil pass0 (pa_cons (pv 0) (pa_cons (pe_glob (v := .str zL) rfl gL ⟨_, rfl⟩) pa_nil)))))))), ?_⟩
    refine ⟨_, rfl, _, .ty "str", _, _, isS v, rfl, .ty _, ty, ks, isS v, rfl, ?_⟩
    by_cases hs : isS v = true
    · obtain ⟨z, rfl⟩ : ∃ z, v = .str z := by cases v <;> first | exact ⟨_, rfl⟩ | cases hs
      have hz := (tk z rfl).2
      have hz' : z.length ≤ sizeLine := Nat.le_trans hz (by decide)
      refine iteF ⟨_, rfl, z, rfl, hz', _, _, rfl, rfl, _, rfl, ?_⟩
      have q : ∀ b1 b2, decide ((1 : Int) ≤ (z.length : Int)) = b1 → decide ((z.length : Int) ≤ 8) = b2 → nmV (.str z) = (b1 && (b2 && z.cps.toList.all (inL LETS))) := fun b1 b2 h1 h2 => by rw [← h1, ← h2]; rfl
      by_cases h1 : (1 : Int) ≤ (z.length : Int)
      · rw [decide_eq_true h1]
        refine iteT ⟨_, _, rfl, rfl, _, rfl, ?_⟩
        by_cases h2 : (z.length : Int) ≤ 8
        · rw [decide_eq_true (show (z.length : Int) ≤ zM by rw [eM]; exact h2)]
          refine iteT ⟨_, rfl, z, zL, rfl, hz, fun H1 s1 => ?_⟩
          rw [eL]
          have e := q true true (decide_eq_true h1) (decide_eq_true h2)
          have kk := k H1 s1
          rw [e] at kk
          exact kk
        · rw [decide_eq_false (show ¬ (z.length : Int) ≤ zM by rw [eM]; exact h2)]
          have e := q true false (decide_eq_true h1) (decide_eq_false h2)
          have kk := k H (Same.refl H)
          rw [e] at kk
          exact iteF kk
      · rw [decide_eq_false h1]
        have e := q false _ (decide_eq_false h1) rfl
        have kk := k H (Same.refl H)
        rw [e] at kk
        exact iteF ⟨_, rfl, iteF kk⟩
    · have hs' : isS v = false := by simpa using hs
      rw [hs']
      have e : nmV v = false := by cases v <;> first | rfl | cases hs'
      have kk := k H (Same.refl H)
      rw [e] at kk
      exact iteT kk
theorem scGrains : FnScope ["thing"] ["thing"] (defScope sGrains) := ⟨rfl, rfl, rfl, by decide +kernel, rfl, by decide +kernel, by decide +kernel⟩
theorem ok_grains {f fW : Addr} {fd fdW : FuncData} (F : Fun K "is_grains" "is_grains" sGrains f fd) (cW : Cl K mg "is_whole" fW fdW ["thing"]) (GW : FnOk P w K mg base CX0 1 fW fdW ["thing"] (spWholeV K)) : FnOk P w K mg base CX0 2 f fd ["thing"] (spQ K grV) := by
  refine F.ok scGrains (fun vs H Q E h => ?_) (fun cdv A outer s H vs Q E hr h => ?_)
  · obtain ⟨v, rfl, _⟩ := h
    rfl
  · obtain ⟨v, rfl, wh, ws, tk, k⟩ := h
    refine ⟨_, (pss_one (ps_ret (pe_and (pe_call GW (hr.mono (by decide)) (by rfl) cW.g cW.k cW.b .nil pass0 (pa_cons (pv 0) pa_nil)) (pe_one (pe_cmpR op_ge (pv 0) pe_int (nomark _)))))), ?_⟩
    refine ⟨_, rfl, v, rfl, wh, _, rfl, ?_⟩
    have kk := k H (Same.refl H)
    by_cases hw : isW v = true
    · obtain ⟨i, rfl⟩ := isW_int hw
      exact iteT ⟨_, rfl, _, _, rfl, rfl, kk⟩
    · have hw' : isW v = false := by simpa using hw
      have e : grV v = false := by cases v <;> first | rfl | cases hw'
      rw [hw']
      rw [e] at kk
      exact iteF kk
theorem scDay : FnScope ["thing"] ["thing"] (defScope sDay) := ⟨rfl, rfl, rfl, by decide +kernel, rfl, by decide +kernel, by decide +kernel⟩
theorem ok_day {f fW : Addr} {fd fdW : FuncData} {zD : Int} {tD : Tok} (F : Fun K "is_day" "is_day" sDay f fd) (gD : mg "LAST_DAY" = some (.int zD tD)) (eD : zD = 1200) (cW : Cl K mg "is_whole" fW fdW ["thing"]) (GW : FnOk P w K mg base CX0 1 fW fdW ["thing"] (spWholeV K)) : FnOk P w K mg base CX0 2 f fd ["thing"] (spQ K dyV) := by
  refine F.ok scDay (fun vs H Q E h => ?_) (fun cdv A outer s H vs Q E hr h => ?_)
  · obtain ⟨v, rfl, _⟩ := h
    rfl
  · obtain ⟨v, rfl, wh, ws, tk, k⟩ := h
    refine ⟨_, (pss_one (ps_ret (pe_and (pe_call GW (hr.mono (by decide)) (by rfl) cW.g cW.k cW.b .nil pass0 (pa_cons (pv 0) pa_nil)) (pe_one (pe_chain op_le op_le pe_int (pv 0) (pe_glob (v := .int zD) rfl gD ⟨_, rfl⟩)))))), ?_⟩
    refine ⟨_, rfl, v, rfl, wh, _, rfl, ?_⟩
    have kk := k H (Same.refl H)
    by_cases hw : isW v = true
    · obtain ⟨i, rfl⟩ := isW_int hw
      refine iteT ⟨_, rfl, _, _, rfl, rfl, _, rfl, ?_⟩
      subst eD
      have e : dyV (.int i) = (decide (0 ≤ i) && decide (i ≤ 1200)) := rfl
      rw [e] at kk
      by_cases h0 : (0 : Int) ≤ i
      · rw [decide_eq_true h0] at kk ⊢
        exact iteT ⟨_, _, rfl, rfl, kk⟩
      · rw [decide_eq_false h0] at kk ⊢
        exact iteF kk
    · have hw' : isW v = false := by simpa using hw
      have e : dyV v = false := by cases v <;> first | rfl | cases hw'
      rw [hw']
      rw [e] at kk
      exact iteF kk
end
abbrev FunI (K : PySem.W.Frag) (f : Addr) (fd : FuncData) : Prop := FunD K "__init__" "Weight.__init__" (defArgs sInit) (defBody sInit) (defScope sInit) [.int 1] [] f fd
section
variable {P : Program} {w : World} {K : PySem.W.Frag} {mg : Str → Option Value} {base : Heap}
theorem scInit : FnScope ["self", "top", "bottom", "shared"] ["self", "top", "bottom"] (defScope sInit) := ⟨rfl, rfl, rfl, by decide +kernel, rfl, by decide +kernel, by decide +kernel⟩
theorem ok_init {f C fW : Addr} {fd fdW : FuncData} (F : FunI K f fd) (T : WTxt K mg C fW) (GW : FnOk P w K mg base CX0 1 fW fdW ["thing"] (spWhole K)) (bW : Binds K fdW ["thing"] []) : FnOk P w K mg base CX0 2 f fd ["self", "top", "bottom"] (spInit C) := by
  refine FunD_ok0 F scInit (fun vs H Q E h => ?_) (fun cdv A outer s H vs Q E hr h => ?_)
  · obtain ⟨p, dx, t, b, rfl, _⟩ := h
    rfl
  · obtain ⟨p, dx, t, b, rfl, hp, ht, hb, hz, k⟩ := h
    refine ⟨_, pss_cons (ps_if (PW.pt (pw_and (pt_val (pe_call GW hr (by rfl) T.mgW T.kpW bW .nil pass0 (pa_cons (pv 2) pa_nil))) (pw_and1 (pt_cmpR op_eq (pv 2) pe_int (nomark _))))) (pss_one ps_never) pss_nil)
      (pss_cons (ps_if (PW.pt (pw_or (pt_not (pt_val (pe_call GW hr (by rfl) T.mgW T.kpW bW .nil pass0 (pa_cons (pv 1) pa_nil)))) (pw_or (pt_not (pt_val (pe_call GW hr (by rfl) T.mgW T.kpW bW .nil pass0 (pa_cons (pv 2) pa_nil))))
          (pw_or (pt_cmpR op_lt (pv 1) pe_int (nomark _)) (pw_or1 (pt_cmpR op_lt (pv 2) pe_int (nomark _))))))) (pss_one ps_never) pss_nil)
      (pss_cons (ps_set (i := 3) scInit.nd rfl (Or.inl rfl) (pe_callBfun cr_gcd (by rfl) T.gcd (pa_cons (pv 1) (pa_cons (pv 2) pa_nil))))
      (pss_cons (ps_fld (pv 0) (pe_op op_fdivW (pv 1) (pv 3)) rfl)
      (pss_one (ps_fld (pv 0) (pe_op op_fdivW (pv 2) (pv 3)) rfl))))), ?_⟩
    have hg := gcd_pos (t := t) hb
    have hgz : CDivW t ((Int.gcd t b : Nat) : Int) := ⟨hg, Nat.lt_trans ((Sz.gcd (t := t) hz hb).log (by decide)) (by decide)⟩
    have hgz' : CDivW b ((Int.gcd t b : Nat) : Int) := hgz
    refine ⟨_, rfl, b, rfl, true, rfl, iteT ⟨_, rfl, rfl, _, rfl, ?_⟩⟩
    rw [decide_eq_false (show ¬ (V.int b = V.int 0) from fun z => by cases z; omega)]
    refine iteF ?_
    refine ⟨_, rfl, t, rfl, true, rfl, iteF ⟨_, rfl, b, rfl, true, rfl, iteF ⟨_, rfl, _, _, rfl, rfl, _, rfl, ?_⟩⟩⟩
    rw [decide_eq_false (show ¬ t < 0 by omega)]
    refine iteF ⟨_, rfl, _, _, rfl, rfl, _, rfl, ?_⟩
    rw [decide_eq_false (show ¬ b < 0 by omega)]
    refine iteF ?_
    refine ⟨_, rfl, _, rfl, t, b, rfl, ?_⟩
    refine ⟨_, rfl, _, rfl, _, _, rfl, rfl, hgz, _, rfl, p, C, dx, _, rfl, hp, T.cl, T.nT, (by show 0 < 1000; decide), ?_⟩
    refine ⟨_, rfl, _, rfl, _, _, rfl, rfl, hgz', _, rfl, p, C, dx, _, rfl, upd_same, T.cl, T.nB, (by show 1 < 1000; decide), ?_⟩
    show Q .non (upd (upd H p _) p _)
    rw [upd_upd]
    exact k
end
def spNumH : Sp := fun vs H Q _ => ∃ z : Str, vs = [.str z, .str SIX, .int 6] ∧ z.length ≤ 10000 ∧ ∀ H' : Hp, Same H H' → Q (.bl (numH z.cps.toList)) H'
section
variable {P : Program} {w : World} {K : PySem.W.Frag} {mg : Str → Option Value} {base : Heap}
theorem scNumeral : FnScope ["text", "signs", "most"] ["text", "signs", "most"] (defScope sNumeral) := ⟨rfl, rfl, rfl, by decide +kernel, rfl, by decide +kernel, by decide +kernel⟩
theorem ok_numeral {f fM : Addr} {fd fdM : FuncData} (F : Fun K "is_numeral" "is_numeral" sNumeral f fd) (hln : mg "len" = none) (cM : Cl K mg "made_of" fM fdM ["text", "signs"]) (GM : FnOk P w K mg base CX0 1 fM fdM ["text", "signs"] spMade) :
    FnOk P w K mg base CX0 2 f fd ["text", "signs", "most"] spNumH := by
  refine F.ok scNumeral (fun vs H Q E h => ?_) (fun cdv A outer s H vs Q E hr h => ?_)
  · obtain ⟨z, rfl, _⟩ := h
    rfl
  · obtain ⟨z, rfl, lz, k⟩ := h
    refine ⟨_, (pss_cons (ps_if (pt_not (pt_chain op_le op_le pe_int (pe_callB call_len_str (by rfl) hln PySem.boot_len (pa_cons (pv 0) pa_nil)) (pv 2))) (pss_one (ps_ret pe_bl)) pss_nil)
    (pss_cons (ps_if (PW.pt (pw_and (pt_cmpR op_eq (pe_ix ix_str (pv 0) pe_int (fun _ _ => rfl)) pe_str (nomark _)) (pw_and1 (pt_cmpR op_ne (pv 0) pe_str (nomark _))))) (pss_one (ps_ret pe_bl)) pss_nil)
    (pss_one (ps_ret (pe_call GM (hr.mono (by decide)) (by rfl) cM.g cM.k cM.b .nil pass0 (pa_cons (pv 0) (pa_cons (pv 1) pa_nil))))))), ?_⟩
    have hz : z.length ≤ sizeLine := Nat.le_trans lz (by decide)
    have el : z.length = z.cps.toList.length := TL.len_tl z
    have kk := k H (Same.refl H)
    unfold numH at k kk
    refine ⟨_, rfl, z, rfl, hz, _, _, rfl, rfl, _, rfl, ?_⟩
    by_cases h1 : 1 ≤ z.length
    · rw [decide_eq_true (show (1 : Int) ≤ (z.length : Nat) by omega)]
      rw [decide_eq_true (show 1 ≤ z.cps.toList.length by omega)] at k kk
      refine iteT ⟨_, rfl, _, _, rfl, rfl, _, rfl, ?_⟩
      by_cases h2 : z.length ≤ 6
      · rw [decide_eq_true (show (z.length : Int) ≤ 6 by omega)]
        rw [decide_eq_true (show z.cps.toList.length ≤ 6 by omega)] at k kk
        refine iteF ?_
        obtain ⟨c, r, hcr⟩ := first_of h1
        refine ⟨_, rfl, z, 0, c, rfl, rfl, hz, atI_nat (j := 0) (by rw [hcr]; rfl), rfl, _, rfl, ?_⟩
        have last : (!(decide (z.cps.toList.head? = some 48) && !decide (z.cps.toList = [48]))) = true → ∀ H', Same H H' → Q (.bl (z.cps.toList.all (inL SIX))) H' := fun e H' s => by
          have q := k H' s
          rw [e] at q
          exact q
        refine ite2 (fun h3 => ?_) (fun h3 => ?_)
        · have hc : c = 48 := zero_sign (by injection of_decide_eq_true h3)
          have hh : z.cps.toList.head? = some 48 := by rw [hcr, hc]; rfl
          refine ⟨_, rfl, rfl, _, rfl, ?_⟩
          by_cases h4 : z = "0"
          · have h5 : z.cps.toList = [48] := by rw [h4]; decide +kernel
            rw [decide_eq_true (show V.str z = V.str "0" by rw [h4])]
            refine iteF ?_
            refine ⟨_, rfl, _, rfl, z, SIX, rfl, lz, last ?_⟩
            rw [decide_eq_true hh, decide_eq_true h5]
            rfl
          · have h5 : ¬ z.cps.toList = [48] := fun e => h4 (TL.ext_tl (by
              have e0 : TL.tl ("0" : Str) = [48] := by decide +kernel
              rw [e0]
              exact e))
            rw [decide_eq_false (show ¬ V.str z = V.str "0" from fun q => h4 (by injection q))]
            refine iteT ?_
            rw [decide_eq_true hh, decide_eq_false h5] at kk
            exact kk
        · refine ⟨_, rfl, _, rfl, z, SIX, rfl, lz, last ?_⟩
          have hh : ¬ z.cps.toList.head? = some 48 := fun e => h3 (by
            have : c = 48 := by rw [hcr] at e; exact Option.some.inj e
            rw [this]
            exact decide_eq_true (by rw [sign_zero]))
          rw [decide_eq_false hh]
          rfl
      · rw [decide_eq_false (show ¬ (z.length : Int) ≤ 6 by omega)]
        rw [decide_eq_false (show ¬ z.cps.toList.length ≤ 6 by omega)] at kk
        exact iteT kk
    · rw [decide_eq_false (show ¬ (1 : Int) ≤ (z.length : Nat) by omega)]
      rw [decide_eq_false (show ¬ 1 ≤ z.cps.toList.length by omega)] at kk
      exact iteF ⟨_, rfl, iteT kk⟩
theorem scMark : FnScope ["thing"] ["thing"] (defScope sMark) := ⟨rfl, rfl, rfl, by decide +kernel, rfl, by decide +kernel, by decide +kernel⟩
theorem ok_mark {f fN : Addr} {fd fdN : FuncData} {zT : Str} {tT tM : Tok} {zM : Int} (F : Fun K "is_mark" "is_mark" sMark f fd) (B : Blt mg) (hst : mg "str" = none) (cN : Cl K mg "is_numeral" fN fdN ["text", "signs", "most"]) (GN : FnOk P w K mg base CX0 2 fN fdN ["text", "signs", "most"] spNumH)
    (hT : mg "SIXTEENS" = some (.str zT tT)) (eT : zT = SIX) (hM : mg "MOST_FIGURES" = some (.int zM tM)) (eM : zM = 6) : FnOk P w K mg base CX0 3 f fd ["thing"] (spQ K mkV) := by
  subst eT eM
  refine F.ok scMark (fun vs H Q E h => ?_) (fun cdv A outer s H vs Q E hr h => ?_)
  · obtain ⟨v, rfl, _⟩ := h
    rfl
  · obtain ⟨v, rfl, wh, ⟨tv, ty, ks⟩, tk, k⟩ := h
    refine ⟨_, (pss_cons (ps_if (pt_not (pt_val (pe_callB call_isi (by rfl) B.isi (by decide +kernel) (pa_cons (pv 0) (pa_cons (pe_bltn (v := .ty "str") (by rfl) hst (by decide +kernel) rfl) pa_nil))))) (pss_one (ps_ret pe_bl)) pss_nil)
    (pss_one (ps_ret (pe_and (pe_bm PySem.F.plainAttrs_str PySem.F.slot_str_startswith PySem.F.type_str_startswith mt_startswith (pv 0) (pa_cons pe_str pa_nil)) (pe_one (pe_call GN (hr.mono (by decide)) (by rfl) cN.g cN.k cN.b .nil pass0 (pa_cons (pe_slice sl_str (pv 0) (po_some pe_int) po_none) (pa_cons (pe_glob (v := .str SIX) rfl hT ⟨_, rfl⟩) (pa_cons (pe_glob (v := .int 6) rfl hM ⟨_, rfl⟩) pa_nil))))))))), ?_⟩
    refine ⟨_, rfl, _, .ty "str", _, _, isS v, rfl, .ty _, ty, ks, isS v, rfl, ?_⟩
    by_cases hs : isS v = true
    · obtain ⟨z, rfl⟩ : ∃ z, v = .str z := by cases v <;> first | exact ⟨_, rfl⟩ | cases hs
      obtain ⟨az, lz⟩ := tk z rfl
      refine iteF ?_
      have hc := cut_one z
      have lc : (cutS z (some 1) none).length ≤ 10000 := Nat.le_trans (cutS_length z _ _) lz
      have big : z.length ≤ sizeLine := Nat.le_trans lz (by decide)
      refine ⟨_, rfl, rfl, z, "c", rfl, rfl, _, rfl, ?_⟩
      rw [starts_c]
      have ev : mkV (.str z) = (decide (z.cps.toList.head? = some 99) && numH (z.cps.toList.drop 1)) := by
        show mkL z.cps.toList = _
        cases e : z.cps.toList with
        | nil => rfl
        | cons c r =>
          show (decide (c = 99) && numH r) = (decide (some c = some 99) && numH r)
          congr 1
          exact decide_eq_decide.mpr ⟨fun h => by rw [h], fun h => Option.some.inj h⟩
      rw [ev] at k
      by_cases h1 : z.cps.toList.head? = some 99
      · rw [decide_eq_true h1] at k ⊢
        refine iteT ⟨_, rfl, 1, rfl, z, rfl, big, _, rfl, lc, fun H1 s1 => ?_⟩
        rw [hc]
        exact k H1 s1
      · rw [decide_eq_false h1] at k ⊢
        exact iteF (k H (Same.refl H))
    · have hs' : isS v = false := by simpa using hs
      rw [hs']
      have e : mkV v = false := by cases v <;> first | rfl | cases hs'
      have kk := k H (Same.refl H)
      rw [e] at kk
      exact iteT kk
end
/-! ### Weights over data -/
abbrev wD (C : Addr) (t b : Int) : D := .ins C [(("top" : Str), .int t), (("bottom" : Str), .int b)]
theorem wf_eq (t b : Int) : wf t b = [(("top" : Str), V.int t), (("bottom" : Str), V.int b)] := by
  unfold wf
  show (if ("top" : Str) = "bottom" then _ else _) = _
  rw [if_neg tb_]
  rfl
theorem wD_top {t b : Int} : ([(("top" : Str), D.int t), (("bottom" : Str), D.int b)] : List (Str × D)).lookup ("top" : Str) = some (.int t) := by
  have e : (("top" : Str) == "top") = true := by decide +kernel
  unfold List.lookup
  rw [e]
theorem wD_bottom {t b : Int} : ([(("top" : Str), D.int t), (("bottom" : Str), D.int b)] : List (Str × D)).lookup ("bottom" : Str) = some (.int b) := by
  have e : (("bottom" : Str) == "top") = false := by decide +kernel
  have e2 : (("bottom" : Str) == "bottom") = true := by decide +kernel
  unfold List.lookup
  rw [e]
  unfold List.lookup
  rw [e2]
theorem wD_no {t b : Int} {m : Str} (h1 : (m == "top") = false) (h2 : (m == "bottom") = false) : ([(("top" : Str), D.int t), (("bottom" : Str), D.int b)] : List (Str × D)).lookup m = none := by
  unfold List.lookup
  rw [h1]
  unfold List.lookup
  rw [h2]
  rfl
def ρMkW (C : Addr) : List DX → (D → Prop) → Prop := fun xs Q => ∃ t b : Int, xs = [.d (.int t), .d (.int b)] ∧ 0 ≤ t ∧ 0 < b ∧ Sz 8000 b ∧ Q (wD C (lowT t b) (lowB t b))
theorem se_mkW {K : PySem.W.Frag} {C : Addr} {E : XK} {t : TA} {r : TDA} {c : Nat} (h : SA K c t r) : SE K c (tMake C (spInit C) [] E t) (fun δ Q => r δ fun xs => ρMkW C xs fun d => Q (.d d)) := se_mk h fun H0 H M xs vs Qd w n q => by
  obtain ⟨t, b, rfl, ht, hb, sb, q⟩ := q
  obtain ⟨v, u, rfl, n1, n2⟩ := dx2 n
  have n1 := DxInt n1
  have n2 := DxInt n2
  subst n1 n2
  refine ⟨[(("top" : Str), .int (lowT t b)), (("bottom" : Str), .int (lowB t b))], [(("top" : Str), .int (lowT t b)), (("bottom" : Str), .int (lowB t b))], ⟨_, _, rfl, rfl, _, _, rfl, rfl, rfl⟩, q, fun p dx H1 Q hp sm _ k => ⟨p, dx, t, b, rfl, hp, ht, hb, sb, ?_⟩⟩
  rw [wf_eq]
  exact k H1 (SmT.refl H1)
/-- the same with the bottom left out -/
theorem se_mkW1 {K : PySem.W.Frag} {C : Addr} {E : XK} {t : TA} {r : TDA} {c : Nat} (h : SA K c t r) : SE K c (tMake C (spInit C) [.int 1] E t) (fun δ Q => r δ fun xs => (fun (d : D → Prop) => ∃ t : Int, xs = [.d (.int t)] ∧ 0 ≤ t ∧ d (wD C (lowT t 1) (lowB t 1))) fun d => Q (.d d)) := se_mk (ρ := fun xs Q => ∃ t : Int, xs = [.d (.int t)] ∧ 0 ≤ t ∧ Q (wD C (lowT t 1) (lowB t 1))) h fun H0 H M xs vs Qd w n q => by
  obtain ⟨t, rfl, ht, q⟩ := q
  obtain ⟨v, rfl, n1⟩ := dx1 n
  have n1 := DxInt n1
  subst n1
  refine ⟨[(("top" : Str), .int (lowT t 1)), (("bottom" : Str), .int (lowB t 1))], [(("top" : Str), .int (lowT t 1)), (("bottom" : Str), .int (lowB t 1))], ⟨_, _, rfl, rfl, _, _, rfl, rfl, rfl⟩, q, fun p dx H1 Q hp sm _ k => ⟨p, dx, t, 1, rfl, hp, ht, by decide, Sz.mono (a := 2) (by unfold Sz; decide) (by decide), ?_⟩⟩
  rw [wf_eq]
  exact k H1 (SmT.refl H1)
theorem low_times {t b a c : Int} (hb : 0 < b) (hc : 0 < c) : lowT (t * lowT a c) (b * lowB a c) = lowT (t * a) (b * c) ∧ lowB (t * lowT a c) (b * lowB a c) = lowB (t * a) (b * c) := by
  have hg := gcd_pos (t := a) hc
  obtain ⟨e1, e2⟩ := low_mul (t := a) hc
  have hl : 0 < lowB a c := Int.ediv_pos_of_pos_of_dvd hc (Int.le_of_lt hg) (Int.gcd_dvd_right _ _)
  have k1 : t * a = ((Int.gcd a c : Nat) : Int) * (t * lowT a c) := by
    rw [← Int.mul_assoc, Int.mul_comm _ t, Int.mul_assoc, Int.mul_comm _ (lowT a c), e1]
  have k2 : b * c = ((Int.gcd a c : Nat) : Int) * (b * lowB a c) := by
    rw [← Int.mul_assoc, Int.mul_comm _ b, Int.mul_assoc, Int.mul_comm _ (lowB a c), e2]
  obtain ⟨r1, r2⟩ := low_scale (x := t * lowT a c) (y := b * lowB a c) hg (Int.mul_pos hb hl)
  rw [k1, k2, r1, r2]
  exact ⟨rfl, rfl⟩
end K
namespace K
open PySem L2 Rp
variable [TabT]
section
variable {K : PySem.W.Frag}
/-- [.. for x in ds], ds told by g of ps: what is made is told by h -/
def dLcP (ω : TDF) (γ : DX → Den → (Den → Prop) → Prop) (c : TDT) (τ : TDE) (vs : List Nat) : TDF := fun δ Q => ω δ fun ds => ∃ (α : Type) (ps : List α) (g h : α → D), ds = ps.map g ∧ ps.length < sizeLine ∧ (∀ p ∈ ps, ∀ P : Option D → Prop, P (some (h p)) → stp γ c τ vs δ (g p) P) ∧ Q (ps.map h)
/-- the same with a test -/
def dLcQ (ω : TDF) (γ : DX → Den → (Den → Prop) → Prop) (c : TDT) (τ : TDE) (vs : List Nat) : TDF := fun δ Q => ω δ fun ds => ∃ (α : Type) (ps : List α) (g h : α → D) (t : α → Bool), ds = ps.map g ∧ ps.length < sizeLine ∧ (∀ p ∈ ps, ∀ P : Option D → Prop, P (if t p then some (h p) else none) → stp γ c τ vs δ (g p) P) ∧ Q ((ps.filter t).map h)
section
variable {wi : TI} {ω : TDF} {g : TG} {γ : DX → Den → (Den → Prop) → Prop} {is vs : List Nat} {tt : TT} {c : TDT} {te : TE} {τ : TDE}
theorem sf_lcP (hi : SIB K κ1 wi ω) (hg : SG K g γ is) (hs : ∀ i ∈ is, i ∈ vs) (hc : ST K κ2 tt c) (he : SE K κ3 te τ) : SF K (κ1 + sizeLine * (κ2 + κ3)) (tLc wi g tt te vs) (dLcP ω γ c τ vs) := by
  refine sf_lcX (fun ds Q δ => ∃ (α : Type) (ps : List α) (g h : α → D), ds = ps.map g ∧ ps.length < sizeLine ∧ (∀ p ∈ ps, ∀ P : Option D → Prop, P (some (h p)) → stp γ c τ vs δ (g p) P) ∧ Q (ps.map h)) hi hg hs hc he ?_
  rintro ds Q δ ⟨α, ps, g, h, rfl, lz, st, q⟩
  refine ⟨by rw [List.length_map]; exact Nat.le_of_lt lz, lcR_in (by rw [List.length_map]; exact lz) (fun k _ y => ∃ p, ps[k]? = some p ∧ y = h p) (fun k d e P hP => ?_) fun acc l a => ?_⟩
  · rw [List.getElem?_map] at e
    cases e2 : ps[k]? with
    | none => rw [e2] at e; cases e
    | some p =>
      rw [e2] at e
      cases e
      exact st p (List.mem_of_getElem? e2) P (hP _ ⟨p, e2, rfl⟩)
  · have e : acc = ps.map h := by
      rw [List.length_map] at l
      apply List.ext_getElem?
      intro i
      rw [List.getElem?_map]
      cases h1 : ps[i]? with
      | none =>
        have : ps.length ≤ i := List.getElem?_eq_none_iff.mp h1
        rw [List.getElem?_eq_none (by omega)]
        rfl
      | some d =>
        have hi : i < ps.length := (List.getElem?_eq_some_iff.mp h1).1
        have h2 : acc[i]? = some acc[i] := List.getElem?_eq_getElem (by omega)
        have h3 : (ps.map g)[i]? = some (g d) := by rw [List.getElem?_map, h1]; rfl
        obtain ⟨p, e1, e2⟩ := a i _ _ h3 h2
        rw [h1] at e1
        cases e1
        rw [h2, e2]
        rfl
    rw [e]
    exact q
theorem sf_lcQ (hi : SIB K κ1 wi ω) (hg : SG K g γ is) (hs : ∀ i ∈ is, i ∈ vs) (hc : ST K κ2 tt c) (he : SE K κ3 te τ) : SF K (κ1 + sizeLine * (κ2 + κ3)) (tLc wi g tt te vs) (dLcQ ω γ c τ vs) := by
  refine sf_lcX (fun ds Q δ => ∃ (α : Type) (ps : List α) (g h : α → D) (t : α → Bool), ds = ps.map g ∧ ps.length < sizeLine ∧ (∀ p ∈ ps, ∀ P : Option D → Prop, P (if t p then some (h p) else none) → stp γ c τ vs δ (g p) P) ∧ Q ((ps.filter t).map h)) hi hg hs hc he ?_
  rintro ds Q δ ⟨α, ps, g, h, t, rfl, lz, st, q⟩
  refine ⟨by rw [List.length_map]; exact Nat.le_of_lt lz, fun k acc => k ≤ ps.length ∧ acc = ((ps.take k).filter t).map h, ⟨Nat.zero_le _, rfl⟩, fun k d acc e ⟨l, a⟩ => ?_, fun acc ⟨_, a⟩ => by rw [a, List.length_map, List.take_length]; exact q⟩
  rw [List.getElem?_map] at e
  cases e2 : ps[k]? with
  | none => rw [e2] at e; cases e
  | some p =>
    rw [e2] at e
    cases e
    have hk : k < ps.length := (List.getElem?_eq_some_iff.mp e2).1
    have et : ps.take (k + 1) = ps.take k ++ [p] := by rw [List.take_add_one, e2]; rfl
    have la : acc.length ≤ k := by
      rw [a, List.length_map]
      exact Nat.le_trans (List.length_filter_le _ _) (by rw [List.length_take]; omega)
    refine st p (List.mem_of_getElem? e2) _ ?_
    have ek : ((ps.take (k + 1)).filter t).map h = acc ++ (([p].filter t).map h) := by rw [et, List.filter_append, List.map_append, ← a]
    cases hp : t p with
    | true =>
      rw [if_pos rfl]
      exact ⟨by omega, hk, by show acc ++ [h p] = _; rw [ek, List.filter_cons, hp]; rfl⟩
    | false =>
      rw [if_neg Bool.false_ne_true]
      exact ⟨hk, by show acc = _; rw [ek, List.filter_cons, hp]; simp⟩
end
/-! ### keywords -/
/-- f(a, b = .., c = ..): the three of no place before, said backward -/
def kw03 {α : Type} : List α → List α → List α
  | [], [a, b, c] => [c, b, a]
  | _, _ => []
/-- f(x, y, c = ..) -/
def kw21 {α : Type} : List α → List α → List α
  | [x, y], [a] => [x, y, a]
  | _, _ => []
/-- f(x, d = .., c = .., b = ..) -/
def kw13 {α : Type} : List α → List α → List α
  | [x], [a, b, c] => [x, c, b, a]
  | _, _ => []
theorem kw03_dn : ∀ (H : Hp) (M : Mk_) (ds es : List D) (vs us : List V), DnL K H M ds vs → DnL K H M es us → DnL K H M (kw03 ds es) (kw03 vs us)
  | _, _, [], [_, _, _], _, _, rfl, ⟨_, _, rfl, n1, _, _, rfl, n2, _, _, rfl, n3, rfl⟩ => ⟨_, _, rfl, n3, _, _, rfl, n2, _, _, rfl, n1, rfl⟩
  | _, _, [], [], _, _, rfl, rfl => rfl
  | _, _, [], [_], _, _, rfl, ⟨_, _, rfl, _, rfl⟩ => rfl
  | _, _, [], [_, _], _, _, rfl, ⟨_, _, rfl, _, _, _, rfl, _, rfl⟩ => rfl
  | _, _, [], _ :: _ :: _ :: _ :: _, _, _, rfl, ⟨_, _, rfl, _, _, _, rfl, _, _, _, rfl, _, _, _, rfl, _, _⟩ => rfl
  | _, _, _ :: _, _, _, _, ⟨_, _, rfl, _, _⟩, _ => rfl
theorem kw21_dn : ∀ (H : Hp) (M : Mk_) (ds es : List D) (vs us : List V), DnL K H M ds vs → DnL K H M es us → DnL K H M (kw21 ds es) (kw21 vs us)
  | _, _, [_, _], [_], _, _, ⟨_, _, rfl, n1, _, _, rfl, n2, rfl⟩, ⟨_, _, rfl, n3, rfl⟩ => ⟨_, _, rfl, n1, _, _, rfl, n2, _, _, rfl, n3, rfl⟩
  | _, _, [], _, _, _, rfl, _ => rfl
  | _, _, [_], _, _, _, ⟨_, _, rfl, _, rfl⟩, _ => rfl
  | _, _, _ :: _ :: _ :: _, _, _, _, ⟨_, _, rfl, _, _, _, rfl, _, _, _, rfl, _, _⟩, _ => rfl
  | _, _, [_, _], [], _, _, ⟨_, _, rfl, _, _, _, rfl, _, rfl⟩, rfl => rfl
  | _, _, [_, _], _ :: _ :: _, _, _, ⟨_, _, rfl, _, _, _, rfl, _, rfl⟩, ⟨_, _, rfl, _, _, _, rfl, _, _⟩ => rfl
theorem kw13_dn : ∀ (H : Hp) (M : Mk_) (ds es : List D) (vs us : List V), DnL K H M ds vs → DnL K H M es us → DnL K H M (kw13 ds es) (kw13 vs us)
  | _, _, [_], [_, _, _], _, _, ⟨_, _, rfl, n0, rfl⟩, ⟨_, _, rfl, n1, _, _, rfl, n2, _, _, rfl, n3, rfl⟩ => ⟨_, _, rfl, n0, _, _, rfl, n3, _, _, rfl, n2, _, _, rfl, n1, rfl⟩
  | _, _, [], _, _, _, rfl, _ => rfl
  | _, _, [_], [], _, _, ⟨_, _, rfl, _, rfl⟩, rfl => rfl
  | _, _, [_], [_], _, _, ⟨_, _, rfl, _, rfl⟩, ⟨_, _, rfl, _, rfl⟩ => rfl
  | _, _, [_], [_, _], _, _, ⟨_, _, rfl, _, rfl⟩, ⟨_, _, rfl, _, _, _, rfl, _, rfl⟩ => rfl
  | _, _, [_], _ :: _ :: _ :: _ :: _, _, _, ⟨_, _, rfl, _, rfl⟩, ⟨_, _, rfl, _, _, _, rfl, _, _, _, rfl, _, _, _, rfl, _, _⟩ => rfl
  | _, _, _ :: _ :: _, _, _, _, ⟨_, _, rfl, _, _, _, rfl, _, _⟩, _ => rfl
end
theorem eq_str {i j : Str} (h : i = j) : (if false = true then !decide (V.str i = V.str j) else decide (V.str i = V.str j)) = true := by
  rw [if_neg Bool.false_ne_true, decide_eq_true (by rw [h])]
theorem eq_str' {i j : Str} (h : i ≠ j) : (if false = true then !decide (V.str i = V.str j) else decide (V.str i = V.str j)) = false := by
  rw [if_neg Bool.false_ne_true, decide_eq_false (fun z => h (by injection z))]
theorem eq_int {i j : Int} (h : i = j) : (if false = true then !decide (V.int i = V.int j) else decide (V.int i = V.int j)) = true := by
  rw [if_neg Bool.false_ne_true, decide_eq_true (by rw [h])]
theorem eq_int' {i j : Int} (h : i ≠ j) : (if false = true then !decide (V.int i = V.int j) else decide (V.int i = V.int j)) = false := by
  rw [if_neg Bool.false_ne_true, decide_eq_false (fun z => h (by injection z))]
theorem ne_str' {i j : Str} (h : i ≠ j) : (if true = true then !decide (V.str i = V.str j) else decide (V.str i = V.str j)) = true := by
  rw [if_pos rfl, decide_eq_false (fun z => h (by injection z))]
  rfl
theorem sl1 {α : Type} {a : α} : [a].length ≤ sizeLine := (by decide : 1 ≤ sizeLine)
theorem sl2 {α : Type} {a b : α} : [a, b].length ≤ sizeLine := (by decide : 2 ≤ sizeLine)
theorem sl3 {α : Type} {a b c : α} : [a, b, c].length ≤ sizeLine := (by decide : 3 ≤ sizeLine)
theorem sl4 {α : Type} {a b c d : α} : [a, b, c, d].length ≤ sizeLine := (by decide : 4 ≤ sizeLine)
end K
namespace K
open PySem L2 Rp
variable [TabT]
section
variable {K : PySem.W.Frag}
/-- x or y, x a text -/
def dOrS (a b : TDE) : TDE := fun δ Q => a δ fun x => ∃ z : Str, x = .d (.str z) ∧ z.length ≤ sizeLine ∧ (z.length ≠ 0 → Q (.d (.str z))) ∧ (z.length = 0 → b δ Q)
theorem se_orS {ta tb : TE} {a b : TDE} (ha : SE K κ1 ta a) (hb : SE K κ2 tb b) : SE K (κ1 + κ2) (tOrT K ta tb) (dOrS a b) := ⟨fun H0 M0 H M σ δ Q Qd r q k => ha.run H0 M0 H M σ δ _ _ r.l q fun x v H1 M1 w1 e1 n1 z => by
  obtain ⟨z, rfl, lz, q1, q2⟩ := z
  have n1 : v = .str z := n1
  subst n1
  refine ⟨_, ⟨lz, rfl⟩, ?_⟩
  by_cases h : z.length = 0
  · rw [if_neg (by rw [h]; simp)]
    exact hb.run H0 M0 H1 M1 σ δ _ _ (r.xe w1 e1) (q2 h) fun b u H2 M2 w2 e2 n2 y => k b u H2 M2 w2 (e1.trans e2) n2 y
  · rw [if_pos (by rw [bne_iff_ne]; omega)]
    exact k (.d (.str z)) _ H1 M1 w1 (e1.mono (by omega)) rfl (q1 h)⟩
def dLstrip (a : TDE) (r : TDA) : TDE := fun δ Q => a δ fun x => ∃ z : Str, x = .d (.str z) ∧ r δ fun xs => ∃ c : Str, xs = [.d (.str c)] ∧ z.length ≤ sizeLine ∧ Q (.d (.str (Txt.lstripChars z c)))
theorem se_lstrip {K' : PySem.W.Frag} {ta : TE} {t : TA} {a : TDE} {r : TDA} (ha : SE K κ1 ta a) (h : SA K κ2 t r) : SE K (κ1 + κ2) (tBM K' "str" (fun x xs H Q => ∃ a b, x = .str a ∧ xs = [.str b] ∧ a.length ≤ sizeLine ∧ Q (.str (Txt.lstripChars a b)) H) ta t) (dLstrip a r) := ⟨fun H0 M0 H M σ δ Q Qd s q k => by
  refine ha.run H0 M0 H M σ δ _ _ s.l q fun x v H1 M1 w1 e1 n1 z => ?_
  obtain ⟨y, rfl, z⟩ := z
  have n1 : v = .str y := n1
  subst n1
  refine ⟨rfl, h.run H0 M0 H1 M1 σ δ _ _ (s.xe w1 e1) z fun xs vs H2 M2 w2 e2 n2 z => ?_⟩
  obtain ⟨c, rfl, lz, q⟩ := z
  obtain ⟨u, rfl, n3⟩ := dx1 n2
  have n3 : u = .str c := n3
  subst n3
  exact ⟨y, c, rfl, rfl, lz, k (.d (.str _)) _ H2 M2 w2 (e1.trans e2) rfl q⟩⟩
theorem lstrip_list (z : Str) : (Txt.lstripChars z "0").cps.toList = z.cps.toList.dropWhile fun c => decide (c = 48) := by
  unfold Txt.lstripChars
  rw [PyProof.Rows.stripBy_eq]
  have e2 : stripHi (("0" : Str).cps.contains) false z (stripLo (("0" : Str).cps.contains) true z) = z.length := rfl
  rw [e2]
  have e3 : (Builtin.Str.strSub z (stripLo (("0" : Str).cps.contains) true z) z.length).cps.toList = z.cps.toList.drop (stripLo (("0" : Str).cps.contains) true z) := TL.tl_strSub_end z _
  rw [e3]
  have e4 : (("0" : Str).cps.contains) = fun c => decide (c = 48) := by
    funext c
    have : ("0" : Str).cps = #[48] := by decide +kernel
    rw [this]
    simp
  rw [e4]
  show List.drop (List.takeWhile _ _).length _ = _
  generalize z.cps.toList = l
  induction l with
  | nil => rfl
  | cons a l ih =>
    by_cases h : a = 48
    · rw [List.takeWhile_cons_of_pos (by simp [h]), List.dropWhile_cons_of_pos (by simp [h]), List.length_cons, List.drop_succ_cons]
      exact ih
    · rw [List.takeWhile_cons_of_neg (by simp [h]), List.dropWhile_cons_of_neg (by simp [h])]
      rfl
/-! ### decks -/
theorem new_deck {H H' : Hp} {M : Mk_} {p : Addr} (w : Wd H M) (hp : H p = none) (dk : DeckN 0 H' p) (e : ∀ b, b ≠ p → H' b = H b) : Wd H' (M.put p (some true)) ∧ XE 0 H M H' (M.put p (some true)) := by
  have ne : ∀ b o, H b = some o → b ≠ p := fun b o h z => by rw [z, hp] at h; cases h
  have nm : ∀ b x, M b = some x → b ≠ p := fun b x h z => by rw [z, w.no hp] at h; cases h
  refine ⟨⟨fun a h => ?_, fun a h => ?_, w.tb.ext fun b o h => (e b (ne b o h)).trans h⟩, ⟨⟨fun b o h m _ => ⟨?_, ?_⟩, fun b ps h m => ⟨⟨ps, (e b (ne b _ h)).trans h⟩, by rw [put_ne (ne b _ h)]; exact m⟩, fun b h => ?_⟩, fun b h => ⟨?_, ?_⟩⟩, Nat.le_refl _⟩
  · by_cases z : a = p
    · rw [z]
      obtain ⟨x, y, u, q, l⟩ := dk
      exact ⟨x, y, u, q, fun h => Nat.le_trans (l h) (Nat.zero_le _)⟩
    · rw [put_ne z] at h
      obtain ⟨x, y, u, q, l⟩ := w.dk a h
      exact ⟨x, y, u, (e a z).trans q, l⟩
  · by_cases z : a = p
    · rw [z, put_same] at h; cases h
    · rw [put_ne z] at h
      obtain ⟨xs, q⟩ := w.ow a h
      exact ⟨xs, (e a z).trans q⟩
  · exact (e b (ne b o h)).trans h
  · rw [put_ne (ne b o h)]; exact m
  · rw [put_ne (nm b _ h)]; exact h
  · rw [put_ne (nm b _ h)]; exact h
  · exact e b (nm b _ h)
/-- one more draw -/
def Mk_.one (M : Mk_) : Mk_ := ⟨M.m, M.n + 1⟩
theorem turn_deck {H H' : Hp} {M : Mk_} {a : Addr} (w : Wd H M) (ha : M a = some true) (dk : DeckN (M.n + 1) H' a) (e : ∀ b, b ≠ a → H' b = H b) : Wd H' M.one ∧ XE 1 H M H' M.one := by
  have nm : ∀ b, M b = some false → b ≠ a := fun b h z => by rw [z, ha] at h; cases h
  have nn : ∀ b, M b = none → b ≠ a := fun b h z => by rw [z, ha] at h; cases h
  obtain ⟨x0, y0, z0, q0, _⟩ := w.dk a ha
  have tb2 : LamX.Tabs TabT.T H' := fun q hq => by
    obtain ⟨ps, h1, h2, h3⟩ := w.tb q hq
    refine ⟨ps, (e _ (fun z => by rw [z, q0] at h1; cases h1)).trans h1, h2, fun pos cv hc => ?_⟩
    obtain ⟨c, e1, e2⟩ := h3 pos cv hc
    exact ⟨c, e1, (e _ (fun z => by rw [z, q0] at e2; cases e2)).trans e2⟩
  refine ⟨⟨fun b h => ?_, fun b h => ?_, tb2⟩, ⟨⟨fun b o h m _ => ⟨(e b (nn b m)).trans h, m⟩, fun b ps h m => ⟨⟨ps, (e b (nn b m)).trans h⟩, m⟩, fun b h => h⟩, fun b h => ⟨h, e b (nm b h)⟩⟩, Nat.le_refl _⟩
  · by_cases z : b = a
    · rw [z]; exact dk
    · obtain ⟨x, y, u, q, l⟩ := w.dk b h
      exact ⟨x, y, u, (e b z).trans q, fun h => Nat.le_succ_of_le (l h)⟩
  · obtain ⟨xs, q⟩ := w.ow b h
    exact ⟨xs, (e b (nm b h)).trans q⟩
/-- a deck is made: its counter is 0 -/
def spDeckN : Sp := fun vs H Q _ => ∃ n : Int, vs = [.int n] ∧ ∀ p, H p = none → ∀ H', DeckN 0 H' p → (∀ b, b ≠ p → H' b = H b) → Q (.ref p) H'
def spDrawN : Sp := fun vs H Q _ => ∃ (n : Nat) (d : Addr) (m : Int), vs = [.ref d, .int m] ∧ n ≤ LIM ∧ 0 < m ∧ m < 1073741824 ∧ DeckN n H d ∧ ∀ r : Int, 0 ≤ r → r < m → ∀ H', DeckN (n + 1) H' d → (∀ b, b ≠ d → H' b = H b) → Q (.int r) H'
def πDeck : List D → (D → Prop) → Prop := fun ds Q => ∃ n : Int, ds = [.int n] ∧ Q .deck
def πDraw : List D → (D → Prop) → Prop := fun ds Q => ∃ m : Int, ds = [.deck, .int m] ∧ 0 < m ∧ m < 1073741824 ∧ ∀ r : Int, 0 ≤ r → r < m → Q (.int r)
variable {P : Program} {w : World} {mg : Str → Option Value} {base : Heap} {f : Addr} {fd : FuncData} {k : Nat} {ps : List Str}
theorem od_deck (F : FnOk P w K mg base CX0 k f fd ps spDeckN) : FnOk P w K mg base CX0 k f fd ps (spD K 0 πDeck) := toD F fun H M ds vs Q Qd E _ wd n h q => by
  obtain ⟨c, rfl, z⟩ := h
  obtain ⟨v, ws, rfl, nv, nn⟩ := n
  have nv : v = _ := nv
  have nn : ws = [] := nn
  subst nv nn
  refine ⟨c, rfl, fun p hp H' dk e => ?_⟩
  obtain ⟨w', x'⟩ := new_deck wd hp dk e
  exact q .deck _ H' _ w' x' ⟨p, rfl, put_same⟩ z
theorem od_draw (F : FnOk P w K mg base CX0 k f fd ps spDrawN) : FnOk P w K mg base CX0 k f fd ps (spD K 1 πDraw) := toD F fun H M ds vs Q Qd E lm wd n h q => by
  obtain ⟨m, rfl, m0, m1, z⟩ := h
  obtain ⟨v, ws, rfl, ⟨a, rfl, ha⟩, u, us, rfl, nu, nn⟩ := n
  have nu : u = _ := nu
  have nn : us = [] := nn
  subst nu nn
  refine ⟨M.n, a, m, rfl, by omega, m0, m1, wd.dk a ha, fun r r0 r1 H' dk e => ?_⟩
  obtain ⟨w', x'⟩ := turn_deck wd ha dk e
  exact q (.int r) _ H' _ w' x' rfl (z r r0 r1)
/-- script[k] -/
def ρIxC : DX → DX → (DX → Prop) → Prop := fun x y Q => ∃ ns i n, x = .d (.scr ns) ∧ y = .d (.int i) ∧ L2.atI ns i = some n ∧ Q (.d (.int n))
theorem sr_ixC : SR2 K (rIxL K) ρIxC := ⟨fun H0 H M x y v u Q Qd w n1 n2 h k => by
  obtain ⟨ns, i, n, rfl, rfl, e, q⟩ := h
  obtain ⟨a, rfl, l⟩ := n1
  have n2 : u = .int i := n2
  subst n2
  refine ⟨a, ns.map V.int, i, .int n, rfl, rfl, ?_, ?_, k (.d (.int n)) _ H M w .refl rfl q⟩
  · rcases l with l | l
    · exact .inl l.1
    · exact l H
  · unfold L2.atI at e ⊢
    rw [List.length_map]
    cases h : ixN ns.length i with
    | none => rw [h] at e; cases e
    | some j =>
      rw [h] at e
      have e : ns[j]? = some n := e
      show (ns.map V.int)[j]? = _
      rw [List.getElem?_map, e]
      rfl⟩
theorem sr_fdivW : SR2 K (rI CDivW fun i j => .int (i / j)) (ρI CDivW fun i j => .int (i / j)) := sr_I fun _ _ _ _ => rfl
/-- a, b = x, y -/
def dsPar (i j : Nat) (r : TDA) : TDS := fun DD δ => r δ fun xs => ∃ x y, xs = [.d x, .d y] ∧ DD.nx ((δ.set i (.dat x)).set j (.dat y))
theorem ss_par {c : Nat} {ta : TA} {r : TDA} (i j : Nat) (ij : i ≠ j) (h : SA K c ta r) : SS K c (tPar i j ta) (dsPar i j r) := ⟨fun ρ0 H0 M0 H M σ δ D DD s q k => h.run H0 M0 H M σ δ _ _ s.l q fun xs vs H1 M1 w1 e1 n1 z => by
  obtain ⟨x, y, rfl, z⟩ := z
  obtain ⟨v, u, rfl, n1, n2⟩ := dx2 n1
  exact ⟨v, u, rfl, k.nx _ _ _ _ (((s.xe w1 e1).set (d := x) n1 i).set (d := y) n2 j) e1.toXT z⟩⟩
def πCell : List D → (D → Prop) → Prop := fun ds Q => ∃ (ns : List Int) (k : Int), ds = [.scr ns, .int k] ∧ 0 ≤ k ∧ ∀ c : Int, Q (.int c)
end
end K
namespace K
open PySem L2 Rp
variable [TabT]
theorem join_all (p : Nat → Bool) : ∀ ys : List Str, (∀ y ∈ ys, y.cps.toList.all p = true) → (Txt.join "" ys).cps.toList.all p = true
  | [], _ => by rw [TL.join_eq]; rfl
  | [x], h => by rw [TL.join_eq]; exact h x List.mem_cons_self
  | x :: y :: r, h => by
    have ih := join_all p (y :: r) fun u hu => h u (List.mem_cons_of_mem _ hu)
    have e0 : TL.tl ("" : Str) = [] := by decide +kernel
    have e : (Txt.join "" (x :: y :: r)).cps.toList = x.cps.toList ++ (Txt.join "" (y :: r)).cps.toList := by
      show TL.tl _ = TL.tl _ ++ TL.tl _
      rw [join_cons, TL.tl_append, TL.tl_append, e0, List.append_nil]
    rw [e, List.all_append, h x List.mem_cons_self, ih]
    rfl
theorem sl_listK {X : Cx} {K : PySem.W.Frag} (hK : X.K = K) : SlR X (rSlL K) := by
  subst hK
  exact sl_list
def rJn (K : PySem.W.Frag) : V → List V → Hp → VK → Prop := fun x xs H Q => ∃ a p, ∃ ys : List Str, x = .str a ∧ xs = [.ref p] ∧ (SqL K H p (ys.map V.str) ∨ SqT K H p (ys.map V.str)) ∧ (ys.map (·.length)).sum + ys.length * a.length ≤ 16777216 ∧ Q (.str (Txt.join a ys)) H
theorem pe_joinK {X : Cx} {Kf : PySem.W.Frag} {o e : Expr} {to te : TE} {apos pos : Pos} (hK : X.K = Kf) (ho : PE X o to) (he : PE X e te) (hs : starEach [e] X.env = [(false, eval e X.env)] := by rfl) (hbase : attributeBase o "join" X.env (eval o X.env) = eval o X.env := by rfl) (hline : (apos.endLine == pos.line) = true := by rfl) :
    PE X (.Call (.Attribute o "join" apos) [e] [] pos) (tM1 (rJn Kf) to te) := by
  subst hK
  exact pe_join ho he hs hbase hline
/-- one letter -/
def L1 (y : Str) : Prop := ∃ c, y = ⟨#[c]⟩ ∧ inL LETS c = true
theorem L1.asc {y : Str} (h : L1 y) : Asc y := by
  obtain ⟨c, rfl, hc⟩ := h
  refine asc_one ?_
  have al : Asc LETS := asc_lit _ (by decide +kernel)
  exact al c (of_decide_eq_true hc)
/-- one to eight letters joined are a name -/
theorem nm_join {ys : List Str} (h : ∀ y ∈ ys, L1 y) (h1 : 1 ≤ ys.length) (h8 : ys.length ≤ 8) : nmV (.str (Txt.join "" ys)) = true ∧ Asc (Txt.join "" ys) := by
  have l1 : ∀ y ∈ ys, y.length = 1 := fun y hy => by
    obtain ⟨c, rfl, _⟩ := h y hy
    rfl
  have ln := join_len1 ys l1
  refine ⟨?_, join_asc ys fun y hy => (h y hy).asc⟩
  show (decide (1 ≤ ((Txt.join "" ys).length : Int)) && (decide (((Txt.join "" ys).length : Int) ≤ 8) && (Txt.join "" ys).cps.toList.all (inL LETS))) = true
  rw [ln, decide_eq_true (by omega), decide_eq_true (by omega), join_all (inL LETS) ys fun y hy => by
    obtain ⟨c, rfl, hc⟩ := h y hy
    show (inL LETS c && true) = true
    rw [hc]
    rfl]
  rfl
/-- letters by their places -/
def lt1 (j : Nat) : Str := ⟨#[97 + j]⟩
def nmT (w : List Nat) : Str := Txt.join "" (w.map lt1)
abbrev wdD (w : List Nat) : List D := w.map fun j => D.int (j : Nat)
theorem lets_at : ∀ j : Nat, j < 26 → (LETS : Str).cps.toList[j]? = some (97 + j) ∧ inL LETS (97 + j) = true := by decide +kernel
theorem nmT_tl : ∀ w : List Nat, (nmT w).cps.toList = w.map (97 + ·)
  | [] => by unfold nmT; rw [List.map_nil, TL.join_eq]; rfl
  | [x] => by unfold nmT; rw [List.map_cons, List.map_nil, TL.join_eq]; rfl
  | x :: y :: r => by
    have ih := nmT_tl (y :: r)
    unfold nmT at ih ⊢
    have e0 : TL.tl ("" : Str) = [] := by decide +kernel
    show TL.tl (Txt.join "" (lt1 x :: lt1 y :: r.map lt1)) = _
    rw [join_cons, TL.tl_append, TL.tl_append, e0, List.append_nil]
    show [97 + x] ++ (Txt.join "" (lt1 y :: r.map lt1)).cps.toList = _
    rw [show (Txt.join "" (lt1 y :: r.map lt1)).cps.toList = _ from ih]
    rfl
theorem nmT_inj {w v : List Nat} (h : nmT w = nmT v) : w = v := by
  have e : w.map (97 + ·) = v.map (97 + ·) := by rw [← nmT_tl, ← nmT_tl, h]
  exact (List.map_inj_right fun a b q => by omega).mp e
theorem nmT_nm {w : List Nat} (h : ∀ j ∈ w, j < 26) (h1 : 1 ≤ w.length) (h8 : w.length ≤ 8) : nmV (.str (nmT w)) = true ∧ Asc (nmT w) :=
  nm_join (fun y hy => by
    obtain ⟨j, hj, rfl⟩ := List.mem_map.mp hy
    exact ⟨97 + j, rfl, (lets_at j (h j hj)).2⟩) (by rw [List.length_map]; exact h1) (by rw [List.length_map]; exact h8)
theorem lt1_sum (w : List Nat) : ((w.map lt1).map (·.length)).sum = w.length := by
  induction w with
  | nil => rfl
  | cons a r ih =>
    rw [List.map_cons, List.map_cons, List.sum_cons, ih, List.length_cons]
    show 1 + r.length = _
    omega
theorem words_of : ∀ acc : List D, (∀ y ∈ acc, ∃ j : Nat, j < 26 ∧ y = .int (j : Nat)) → ∃ w : List Nat, acc = wdD w ∧ ∀ j ∈ w, j < 26
  | [], _ => ⟨[], rfl, fun _ h => (nomatch h)⟩
  | y :: r, h => by
    obtain ⟨j, hj, rfl⟩ := h y List.mem_cons_self
    obtain ⟨w, rfl, hw⟩ := words_of r fun z hz => h z (List.mem_cons_of_mem _ hz)
    exact ⟨j :: w, rfl, fun i hi => by
      rcases List.mem_cons.mp hi with rfl | hi
      · exact hj
      · exact hw i hi⟩
theorem wdD_cut (w : List Nat) (k : Nat) : cutD (wdD w) none (some (k : Int)) = wdD (w.take k) := by rw [cutD_to]; exact List.map_take.symm
theorem wdD_at {w : List Nat} {a : Nat} (h : a < w.length) : L2.atI (wdD w) (a : Int) = some (.int (w[a] : Nat)) := atI_nat (by rw [List.getElem?_map, List.getElem?_eq_getElem h]; rfl)
theorem ixN_nat {n a : Nat} (h : a < n) : ixN n (a : Int) = some a := by
  unfold ixN
  rw [if_pos (by omega), if_pos (by omega)]
  simp
theorem wdD_set (w : List Nat) (a j : Nat) : (wdD w).set a (.int (j : Nat)) = wdD (w.set a j) := List.map_set.symm
theorem wdD_put {w : List Nat} {a j : Nat} (h : a < w.length) : L2.atI (wdD (w.set a j)) (a : Int) = some (.int (j : Nat)) := by
  have := wdD_at (w := w.set a j) (a := a) (by rw [List.length_set]; exact h)
  rw [List.getElem_set_self] at this
  exact this
theorem nodup_map {α β : Type} {f : α → β} {l : List α} (h : l.Nodup) (hf : ∀ a ∈ l, ∀ b ∈ l, f a = f b → a = b) : (l.map f).Nodup :=
  List.pairwise_map.mpr (List.Pairwise.imp_of_mem (fun {a b} ha hb ne q => ne (hf a ha b hb q)) h)
end K
namespace K
open PySem L2 Rp
variable [TabT]
theorem erase_map {α β : Type} (f : α → β) (l : List α) (k : Nat) : (l.map f).eraseIdx k = (l.eraseIdx k).map f := by
  rw [List.eraseIdx_eq_take_drop_succ, List.eraseIdx_eq_take_drop_succ, List.map_append, List.map_take, List.map_drop]
theorem erase_perm {α : Type} {l : List α} {k : Nat} (h : k < l.length) : (l[k] :: l.eraseIdx k).Perm l := by
  have e : l = l.take k ++ l[k] :: l.drop (k + 1) := by
    rw [← List.drop_eq_getElem_cons h, List.take_append_drop]
  rw [List.eraseIdx_eq_take_drop_succ]
  exact List.perm_middle.symm.trans (.of_eq e.symm)
section
variable {K : PySem.W.Frag}
theorem pyL_map {α : Type} {g : α → D} {enc : α → PyData} : ∀ {rs : List α}, (∀ r ∈ rs, (g r).py = some (enc r)) → D.pyL (rs.map g) = some (rs.map enc)
  | [], _ => rfl
  | r :: rs, h => by
    show (match D.py (g r), D.pyL (rs.map g) with
      | some p, some ps => some (p :: ps)
      | _, _ => none) = _
    rw [h r List.mem_cons_self, pyL_map fun x hx => h x (List.mem_cons_of_mem _ hx)]
    rfl
theorem DnL.zip_mem {H : Hp} {M : Mk_} {α : Type} {g : α → D} : ∀ {rs : List α} {xs : List V}, DnL K H M (rs.map g) xs → ∀ q ∈ xs.zip rs, Dn K H M (g q.2) q.1
  | [], xs, h, q, hq => by rw [List.zip_nil_right] at hq; cases hq
  | r :: rs, _, ⟨u, us, e, h, k⟩, q, hq => by
    subst e
    rcases List.mem_cons.mp hq with rfl | hq
    · exact h
    · exact DnL.zip_mem k q hq
theorem DnL.of_maps {H : Hp} {M : Mk_} {β : Type} {g : β → D} {f : β → V} : ∀ {L : List β}, (∀ q ∈ L, Dn K H M (g q) (f q)) → DnL K H M (L.map g) (L.map f)
  | [], _ => rfl
  | q :: L, h => ⟨_, _, rfl, h q List.mem_cons_self, DnL.of_maps fun x hx => h x (List.mem_cons_of_mem _ hx)⟩
/-- a sorted list of data: told by g of rs, by enc to be compared -/
theorem sf_sortedD {t : TA} {r : TDA} (h : SA K κ1 t r) : SF K κ1 (tCB (rSortedD K) t) (fun δ Q => r δ fun xs => ∃ (x : DX) (α : Type) (rs : List α) (g : α → D) (enc : α → PyData), xs = [x] ∧ x.get = .lst (rs.map g) ∧ (∀ r ∈ rs, (g r).py = some (enc r)) ∧ PySem.W.AllAlike (rs.map enc) ∧ PySem.W.Sortable (rs.map enc) ∧ (∀ r ∈ rs, (enc r).depth ≤ 50) ∧
    ∀ zs : List α, zs.Perm rs → zs.Pairwise (fun a b => PySem.W.dataLe false enc a b = true) → Q (zs.map g)) := ⟨fun H0 M0 H M σ δ Q Qd s q k => h.run H0 M0 H M σ δ _ _ s q fun xs vs H1 M1 w1 e1 n z => by
  obtain ⟨x, α, rs, g, enc, rfl, e, py, al, so, dep, z⟩ := z
  obtain ⟨v, rfl, n1⟩ := dx1 n
  obtain ⟨a, us, rfl, l, nl⟩ := lst_at n1 e
  have lu : us.length = rs.length := by rw [nl.len, List.length_map]
  refine ⟨a, us, rs.map enc, rfl, .inl (.of l), D.pyL_is _ _ _ nl (pyL_map py), al, so, fun p hp => ?_, fun p hp => ?_⟩
  · obtain ⟨r, hr, rfl⟩ := List.mem_map.mp hp
    exact dep r hr
  · have eL : us.zip (rs.map enc) = (us.zip rs).map (fun q : V × α => (q.1, enc q.2)) := by
      rw [List.zip_map_right]
      rfl
    have eS : (us.zip (rs.map enc)).mergeSort (PySem.W.dataLe false (fun q : V × PyData => q.2)) = ((us.zip rs).mergeSort (PySem.W.dataLe false (fun q : V × α => enc q.2))).map (fun q : V × α => (q.1, enc q.2)) := by
      rw [eL]
      exact (List.map_mergeSort (r := PySem.W.dataLe false (fun q : V × α => enc q.2)) (s := PySem.W.dataLe false (fun q : V × PyData => q.2)) (f := fun q : V × α => (q.1, enc q.2)) fun a _ b _ => rfl).symm
    have pm : ((us.zip rs).mergeSort (PySem.W.dataLe false (fun q : V × α => enc q.2))).Perm (us.zip rs) := List.mergeSort_perm _ _
    have tot : PySem.W.TotalLe (PySem.W.dataLe false (fun q : V × α => enc q.2)) := PySem.W.sortLe_total _ _ _
    have so : ((us.zip rs).mergeSort (PySem.W.dataLe false (fun q : V × α => enc q.2))).Pairwise (fun a b => PySem.W.dataLe false (fun q : V × α => enc q.2) a b = true) := List.pairwise_mergeSort (fun a b c h1 h2 => tot.trans a b c h1 h2) (fun a b => by rcases tot.total a b with h | h <;> simp [h]) _
    have ev : (((us.zip (rs.map enc)).mergeSort (PySem.W.dataLe false (fun q : V × PyData => q.2))).map Prod.fst) = ((us.zip rs).mergeSort (PySem.W.dataLe false (fun q : V × α => enc q.2))).map Prod.fst := by
      rw [eS, List.map_map]
      rfl
    rw [ev]
    generalize (us.zip rs).mergeSort (PySem.W.dataLe false (fun q : V × α => enc q.2)) = L at pm so
    have zp : (L.map Prod.snd).Perm rs := by
      have := pm.map (Prod.snd (α := V) (β := α))
      rwa [List.map_snd_zip (by omega)] at this
    refine k _ p _ _ (M1.put p (some false)) (own_wd hp w1) (e1.trans (own_xe false hp w1)) put_same (e1.free s.wd w1 hp) upd_same ?_ (z (L.map Prod.snd) zp (List.pairwise_map.mpr so))
    have nx : ∀ q ∈ L, Dn K H1 M1 (g q.2) q.1 := fun q hq => DnL.zip_mem nl q (pm.subset hq)
    rw [List.map_map]
    exact DnL.of_maps fun q hq => Dn.xt w1 (own_xe (o := .lst _) false hp w1).toXT _ _ (nx q hq)⟩
end
/-- rows (name, number, number) with unlike names: sorted they rise by name -/
abbrev rowE (s : Str × Int × Int) : PyData := .tuple [.str s.1, .int s.2.1, .int s.2.2]
theorem rowE_lt {s t : Str × Int × Int} (h : s.1 ≠ t.1) : PySem.W.dataLt (rowE s) (rowE t) = decide (s.1.cps.toList < t.1.cps.toList) := by
  have e : PyData.eqv (.str s.1) (.str t.1) = false := by
    show (s.1 == t.1) = false
    exact beq_eq_false_iff_ne.mpr h
  rw [PySem.W.dataLt_tuple, PySem.W.dataLt_all_no (by simp [PySem.W.alike]) e, PySem.W.dataLt_str]
theorem rows_sorted {zs : List (Str × Int × Int)} (nd : (zs.map (·.1)).Nodup) (h : zs.Pairwise (fun a b => PySem.W.dataLe false rowE a b = true)) : zs.Pairwise fun a b => a.1.cps.toList < b.1.cps.toList := by
  have nd2 : zs.Pairwise fun a b => a.1 ≠ b.1 := List.pairwise_map.mp nd
  refine (h.and nd2).imp fun {a b} ⟨h1, h2⟩ => ?_
  have h3 : (!PySem.W.dataLt (rowE b) (rowE a)) = true := h1
  rw [rowE_lt (Ne.symm h2)] at h3
  have h4 : ¬ b.1.cps.toList < a.1.cps.toList := by simpa using h3
  by_cases h5 : a.1.cps.toList < b.1.cps.toList
  · exact h5
  · exact absurd (List.le_antisymm (List.not_lt.mp h4) (List.not_lt.mp h5)) fun e => h2 (TL.ext_tl e)
theorem rows_alike (zs : List (Str × Int × Int)) : PySem.W.AllAlike (zs.map rowE) ∧ PySem.W.Sortable (zs.map rowE) ∧ ∀ r ∈ zs, (rowE r).depth ≤ 50 :=
  ⟨PySem.W.AllAlike.of fun a b => by simp [PySem.W.alike, PySem.W.alikeAll], PySem.W.Sortable.tuples fun a => ⟨_, _, rfl⟩, fun r _ => by simp [PyData.depth, PyData.depthAll]⟩
end K
namespace K
open PySem PySem.Spec PyProof.Rows L2 Rp
variable [TabT]
/-! ### a lambda that captures nothing -/
/-- the lambda's object stands at f, its code object at c' -/
def LamO (f c' : Addr) (q : Str) (ps : Arguments) (bd : Expr) (sc : Scope) : HO := .ext fun h => ∃ pm ctv : Value, h.get? f = some (PySem.W.kla_obj "<lambda>" q ps bd sc [] pm c' ctv)
def LamIs (H : Hp) (f : Addr) (q : Str) (ps : Arguments) (bd : Expr) (sc : Scope) : Prop := ∃ c', H f = some (LamO f c' q ps bd sc) ∧ H c' = some (LamX.CodeO c' q)
def tLamT (q : Str) (ps : Arguments) (bd : Expr) (sc : Scope) : TE := fun _ H Q => LamX.Tabs TabT.T H ∧ ∀ f H1, H f = none → SmT H H1 → LamIs H1 f q ps bd sc → Q (.ref f) H1
section
variable {X : Cx}
theorem laid_lam {pins : List (Addr × Obj)} {σ : L2.St} {H : Hp} {s : Shared} {h' : Heap} {tk : Tok} {q : Str} {ps : Arguments} {bd : Expr} {sc : Scope} {pm ctv : Value} {c' : Addr} {t0 : Nat} (J : Inv X pins σ H { s with heap := h', toks := t0 }) :
    Inv X pins σ (upd H h'.objs.size (LamO h'.objs.size c' q ps bd sc)) { s with heap := h'.push (PySem.W.kla_obj "<lambda>" q ps bd sc [] pm c' ctv), toks := tk } := by
  have here : (h'.push (PySem.W.kla_obj "<lambda>" q ps bd sc [] pm c' ctv)).get? h'.objs.size = some (PySem.W.kla_obj "<lambda>" q ps bd sc [] pm c' ctv) := Heap.get?_push_size _ rfl
  exact J.laid (t' := tk) (fun b u e => Heap.get?_push_of_some _ e) (Nat.le_refl _) ⟨⟨pm, ctv, here⟩, ⟨_, here⟩, fun h1 h2 ⟨pm, ctv, a⟩ st => ⟨pm, ctv, st _ a⟩⟩
/-- the making of a lambda -/
theorem pe_lamT {c P : Addr} {params : Arguments} {body : Expr} {scope : Scope} {pos : Pos} (TB : LamX.TabB X.base X.mg c P) (hcode : X.env.code = .ref c) (hm : (P, X.env.qual ++ "<lambda>") ∈ TabT.T) (hu : ∀ p ∈ TabT.T, p.1 = P → p.2 = X.env.qual ++ "<lambda>")
    (hdef : defaultsOf params X.env = ([], [])) (hcl : closureFor scope X.env = pure []) : PE X (.Lambda params body scope pos) (tLamT (X.env.qual ++ "<lambda>") params body scope) := ⟨fun pins s σ H Q I hh => by
  obtain ⟨hT, go⟩ := hh
  obtain ⟨ps, hP, tri, amg⟩ := hT _ hm
  have blt : s.heap.BuiltinsAt X.mg P := TB.bm.keeps I.bk
  have cdh := TB.code.keeps I.bk
  have gl := I.mod.glob.keeps I.bk
  have atP : s.heap.get? P = some { cls := .none, data := .fields ps } := I.hok P _ hP
  refine PySem.W.kla_eval hdef ?_
  cases hc : codeAmong pos ps.toList with
  | some cv =>
    obtain ⟨c', rfl, hco⟩ := amg pos cv hc
    refine PySem.W.kla_makeFunctionHit (mg := X.mg) (c := c) (P := P) (ps := ps) hcl I.ok.glob gl hcode cdh atP tri hc blt fun ctv h' tk kp ls => ?_
    have J : Inv X pins σ H { s with heap := h', toks := tk } := I.kept kp
    have new : H h'.objs.size = none := I.hok.fresh ls
    refine ⟨.ref h'.objs.size, _, laid_lam (c' := c') (tk := tk) J, rfl, go _ _ new (.of fun b o e => ?_) ⟨c', upd_same, ?_⟩⟩
    · rw [upd_ne (ne_of_none e new)]; exact e
    · rw [upd_ne (ne_of_none hco new)]; exact hco
  | none =>
    refine PySem.W.kla_makeFunction (mg := X.mg) (c := c) (P := P) (ps := ps) hcl I.ok.glob gl hcode cdh atP tri hc TB.gP blt fun c' ctv h' tk kp ge lt rec tb => ?_
    obtain ⟨c2, oc, vs, t, e2, r1, r2, r3⟩ := rec
    injection e2 with e2
    subst e2
    have nC : H c' = none := I.hok.fresh ge
    have I1 := LamX.inv_table (t' := tk) (more := #[rawInt pos.line, rawInt pos.col, .ref c']) (h' := h') I hP (fun b o nb e => kp b o nb e) tb ge ⟨oc, vs, t, r1, r2, r3⟩
    have sz : s.heap.objs.size ≤ h'.objs.size := Nat.le_trans ge (Nat.le_of_lt lt)
    have nPc : P ≠ c' := ne_of_none hP nC
    have nPf : P ≠ h'.objs.size := Nat.ne_of_lt (Nat.lt_of_lt_of_le (Heap.lt_size atP) sz)
    have ncf : c' ≠ h'.objs.size := Nat.ne_of_lt lt
    have new : H h'.objs.size = none := I.hok.fresh sz
    have old : ∀ b o, H b = some o → b ≠ P → upd (upd (upd H P (.tbl (ps ++ #[rawInt pos.line, rawInt pos.col, .ref c']))) c' (LamX.CodeO c' (X.env.qual ++ "<lambda>"))) h'.objs.size (LamO h'.objs.size c' (X.env.qual ++ "<lambda>") params body scope) b = some o := fun b o e nb => by
      rw [upd_ne (ne_of_none e new), upd_ne (ne_of_none e nC), upd_ne nb]; exact e
    have nowP : upd (upd (upd H P (.tbl (ps ++ #[rawInt pos.line, rawInt pos.col, .ref c']))) c' (LamX.CodeO c' (X.env.qual ++ "<lambda>"))) h'.objs.size (LamO h'.objs.size c' (X.env.qual ++ "<lambda>") params body scope) P = some (.tbl (ps ++ #[rawInt pos.line, rawInt pos.col, .ref c'])) := by
      rw [upd_ne nPf, upd_ne nPc, upd_same]
    have nowC : upd (upd (upd H P (.tbl (ps ++ #[rawInt pos.line, rawInt pos.col, .ref c']))) c' (LamX.CodeO c' (X.env.qual ++ "<lambda>"))) h'.objs.size (LamO h'.objs.size c' (X.env.qual ++ "<lambda>") params body scope) c' = some (LamX.CodeO c' (X.env.qual ++ "<lambda>")) := by
      rw [upd_ne ncf, upd_same]
    refine ⟨.ref h'.objs.size, _, laid_lam (c' := c') (tk := tk) I1, rfl, go _ _ new ⟨fun b o e n => old b o e fun z => ?_, fun b qs e => ?_, fun _ p hp => ?_⟩ ⟨c', upd_same, nowC⟩⟩
    · rw [z, hP] at e
      exact n _ (Option.some.inj e).symm
    · by_cases z : b = P
      · rw [z]; exact ⟨_, nowP⟩
      · exact ⟨qs, old b _ e z⟩
    · have keepC : ∀ b q, H b = some (LamX.CodeO b q) → b ≠ P := fun b q e z => by
        rw [z, hP] at e
        cases e
      by_cases z : p.1 = P
      · rw [hu p hp z, z]
        have eL : (ps ++ #[rawInt pos.line, rawInt pos.col, .ref c']).toList = ps.toList ++ [rawInt pos.line, rawInt pos.col, .ref c'] := by simp
        refine ⟨_, nowP, by rw [eL]; exact PySem.TriplesOk_snoc _ _ _ _ tri, fun p2 cv h2 => ?_⟩
        rw [eL] at h2
        rcases LamX.among_app _ tri h2 with h3 | h3
        · obtain ⟨c0, e1, e2⟩ := amg p2 cv h3
          exact ⟨c0, e1, old _ _ e2 (keepC _ _ e2)⟩
        · exact ⟨c', h3, nowC⟩
      · obtain ⟨qs, a1, a2, a3⟩ := hT p hp
        refine ⟨qs, old _ _ a1 z, a2, fun p2 cv h2 => ?_⟩
        obtain ⟨c0, e1, e2⟩ := a3 p2 cv h2
        exact ⟨c0, e1, old _ _ e2 (keepC _ _ e2)⟩⟩
/-- the lambda asked -/
theorem lam_ask {n : Nat} {pins : List (Addr × Obj)} {σ : L2.St} {H : Hp} {s : Shared} {A : Around} {E : Value → Shared → Prop} {f : Addr} {q : Str} {params : Arguments} {body : Expr} {scope : Scope} {a : Str} {x : V} {u : Value} {tb : TE} {Q : VK}
    (S : FnScope [a] [a] scope) (hr : Room (n + 1) A) (hfr : A.frames = X.A.frames) (I : Inv X pins σ H s) (LI : LamIs H f q params body scope) (rx : RelV x u)
    (hb : ∀ pm cv ctv, bindArgs (PySem.W.kla_fn "<lambda>" q params body scope [] pm cv ctv) ⟨[u], []⟩ = pure [(a, u)])
    (hbody : ∀ (cdv : Value) (A : Around) (outer : List Env) (s : Shared) (H : Hp), Room n (A.deeper (envOfC q scope s.heap.objs.size f cdv)) → PE (cxOf CX0 X.prog X.w X.K X.mg X.base [a] q scope f cdv A outer s H E0).nox body tb) (ht : tb (L2.start [a] [x]) H Q) :
    wpAny (model X.prog X.w) A (call (.ref f) [u]) (fun v s' => ∃ y H', Inv X pins σ H' s' ∧ RelV y v ∧ Q y H') E s := by
  have e0 : Env0 X.prog X.w X.K X.mg X.base A X.stack s H := by
    have e := I.env0
    exact ⟨by rw [hfr]; exact e.frames, e.mod, e.bs, e.bsz, e.funs, e.frf, e.hok, e.bare⟩
  obtain ⟨c', h1, h2⟩ := LI
  obtain ⟨⟨pm, ctv, ho⟩, _, _⟩ := I.hok f _ h1
  obtain ⟨⟨oc, vs, t, r1, r2, r3⟩, _, _⟩ := I.hok c' _ h2
  have lim := I.nolimit
  have kinds : ∀ y ∈ [(a, u)], scope.names.lookup y.1 = some .local ∨ (scope.names.lookup y.1 = some .cell ∧ ((cellsFrom (s.heap.objs.size + 1) scope.names []).lookup y.1).isSome = true) := by
    intro y hy
    rw [List.mem_singleton.mp hy]
    exact (S.par a (List.mem_singleton.mpr rfl)).imp id fun q => ⟨q, PySem.W.cellsFrom_some _ _ _ (.inl q)⟩
  have rc : codeAny (model X.prog X.w) A (.call (.ref f) ⟨[u], []⟩) (CR CX0 X.stack X.prog X.w H s Q E0) s := by
    refine PySem.W.kla_callFunE hr.depth ho rfl S.co S.gen rfl ⟨c', oc, vs, t, rfl, r1, r2, r3⟩ ?_
    rw [hb]
    refine wpAny_pure (wpAny_newFunctionEnv_cells S.kind kinds fun env he s1 ic => ?_)
    subst he
    refine ⟨lim.keeps ic.toInCall.keep, PySem.W.kla_codeExpr ?_⟩
    have J : Inv (cxOf CX0 X.prog X.w X.K X.mg X.base [a] q scope f (.ref c') A X.stack s H E0) [] (L2.start [a] [x]) H s1 := inv_start S hr.hd e0 rfl (.cons rx .nil) ic
    refine wpAny_mono ((hbody (.ref c') A X.stack s H (hr.deeper _)).nox.run [] s1 _ H _ J ht) (fun v s' hs => ?_) fun e s' hs => hs
    obtain ⟨y, H', J', rv, q⟩ := hs
    exact ⟨y, H', J'.os, J'.bare, J'.base, J'.hok, rv, q⟩
  refine wpAny_call (codeAny_mono rc fun r s' hq => ?_)
  match r, hq with
  | .error e, hq => exact hq.elim
  | .ok (.ret w), hq =>
    obtain ⟨z, H', I', rz, q⟩ := I.after hq
    exact ⟨z, H', I', rz, q⟩
end
end K
/-! sorted(xs, key=f), the keys data -/
namespace K
open PySem PySem.Spec PyProof.Rows L2 Rp
variable [TabT]
section
variable {X : Cx} {A : Around} {E : Value → Shared → Prop} {P : PySem.Fin → Shared → Prop} {pins : List (Addr × Obj)} {σ : L2.St} {a kS : Addr} {e1 : Nat} {β : Type} {bs : List β} {fv : β → V} {its : List Value} {k : β → PyData}
theorem vals_each : ∀ {bs : List β} {its : List Value}, Vals (bs.map fv) its → PySem.W.EachIs (fun (v : Value) (b : β) => RelV (fv b) v) its bs
  | [], _, h => by cases h; exact .nil
  | b :: bs, _, h => by
    cases h with
    | cons r t => exact .cons r (vals_each t)
theorem each_vals : ∀ {bs : List β} {its : List Value}, PySem.W.EachIs (fun (v : Value) (b : β) => RelV (fv b) v) its bs → Vals (bs.map fv) its
  | _, _, .nil => .nil
  | _, _, .cons r t => .cons r (each_vals t)
/-- the end: keys and items are there -/
theorem sortD_fin {st : SortSt} {H : Hp} {s : Shared} {keys : Array Value} {out : List Value} {ks : List V} {ys : List β} (I : Inv X pins σ H s) (ha : H a = some (.frz (seqObj "list" #[] e1) (.lst []))) (hS : H kS = some (.lst ks)) (hn : ∀ o u, X.H_0 a ≠ some (.frz o u))
    (hf : failedOf st = none) (ho : (arrOf st).map (·.2) = out.toArray) (hy : Vals (ys.map fv) out) (hz : ys.length ≤ sizeLine)
    (h : ∀ s' H', (∀ b o, b ≠ a → b ≠ kS → H b = some o → H' b = some o) → H' a = some (.lst (ys.map fv)) → Inv X pins σ H' s' → P (.done (.ret .none)) s') :
    wpAny (model X.prog X.w) A (ksk_tail a false e1 (.ref kS) st) P E s := by
  have nka : kS ≠ a := fun z => by rw [z, ha] at hS; cases hS
  obtain ⟨zS, itS, nS, rS, lS, hoS⟩ := I.lstM hS
  have I1 := I.lset (ys := []) (its' := []) (f := fun _ => #[]) (t' := s.toks) hS hoS rfl .nil (Nat.zero_le _)
  have ha1 : (upd H kS (.lst [])) a = some (.frz (seqObj "list" #[] e1) (.lst [])) := by rw [upd_ne (Ne.symm nka)]; exact ha
  have ho1 := (I1.hok a _ ha1).1
  have I2 := I1.unlock ha1 hn
  have ly : (ys.map fv).length ≤ sizeLine := by rw [List.length_map]; exact hz
  have lo : out.length ≤ sizeLine := by rw [← hy.length]; exact ly
  have I3 := I2.lset (ys := ys.map fv) (its := []) (its' := out) (f := fun _ => (arrOf st).map (·.2)) (t' := s.toks) upd_same ho1 (by exact ho) (by exact hy) ly
  unfold ksk_tail
  dsimp only
  refine wpAny_bind (listUpdate_at hoS rfl (wpAny_bind (wpAny_letGo (wpAny_bind (seqEpoch_at ho1 rfl (wpAny_bind (listUpdate_at ho1 rfl ?_ (Nat.zero_le _) ?_)))))) ?_ (Nat.zero_le _))
  · rw [hf]
    simp only [Bool.false_eq_true, if_false, bne_self_eq_false]
    refine wpAny_pure (h _ _ (fun b o n1 n2 e => ?_) upd_same I3)
    rw [upd_ne n1, upd_ne n1, upd_ne n2]
    exact e
  · simp only [Bool.false_eq_true, if_false]
    rw [ho, List.size_toArray]
    exact Nat.le_succ_of_le lo
  · rw [List.size_toArray, ← lS]
    exact zS
theorem sortD_keyed {H : Hp} {s : Shared} {keys : Array Value} {ks : List V} (I : Inv X pins σ H s) (ha : H a = some (.frz (seqObj "list" #[] e1) (.lst []))) (hS : H kS = some (.lst ks)) (hn : ∀ o u, X.H_0 a ≠ some (.frz o u)) (rv : Vals (bs.map fv) its)
    (hz : its.length ≤ sizeLine) (hk : PySem.W.EachIs (fun v d => ∃ as, Reads s.heap v d as) keys.toList (bs.map k)) (hal : PySem.W.AllAlike (bs.map k)) (hsk : PySem.W.Sortable (bs.map k)) (hu : ∀ d ∈ bs.map k, A.units + d.depth < cLine)
    (h : ∀ s' H', (∀ b o, b ≠ a → b ≠ kS → H b = some o → H' b = some o) → H' a = some (.lst ((bs.mergeSort (PySem.W.dataLe false k)).map fv)) → Inv X pins σ H' s' → P (.done (.ret .none)) s') :
    wpAny (model X.prog X.w) A (ksk_end a false its.toArray e1 (.ref kS) keys) P E s := by
  have lb : its.length = bs.length := by rw [← rv.length, List.length_map]
  have lk : keys.size = its.length := by
    have q := hk.length
    rw [Array.length_toList, List.length_map] at q
    omega
  have S : PySem.W.SortsAt X.prog X.w A s (PySem.W.dataKind s.heap (bs.map k)) keys.toList := PySem.W.SortsAt.data hk hal hsk hu
  obtain ⟨kd, g1, g2⟩ := S.kind
  have hK : PyProof.Rows.KeysOf (PySem.W.dataKind s.heap (bs.map k)) (keys.zip its.toArray) := PySem.W.keysOf_zip S.keys
  have hss : (keys.zip its.toArray).size = its.length := by rw [Array.size_zip, lk, List.size_toArray, Nat.min_self]
  have oute : PySem.W.EachIs (fun (v : Value) (b : β) => RelV (fv b) v) (PySem.W.sortVals (PySem.W.dataKind s.heap (bs.map k)) false keys.toList its) (bs.mergeSort (PySem.W.dataLe false k)) :=
    PySem.W.keyedOut_each k ⟨s.heap, keys.toList, hal, rfl, hk⟩ (vals_each rv)
  have lm : (bs.mergeSort (PySem.W.dataLe false k)).length ≤ sizeLine := by rw [List.length_mergeSort]; omega
  have fin : ∀ st' : SortSt, (arrOf st').Perm (keys.zip its.toArray) → SortedToK (PySem.W.dataKind s.heap (bs.map k)) (arrOf st') (keys.zip its.toArray).size → Stable (PySem.W.dataKind s.heap (bs.map k)) (arrOf st') (keys.zip its.toArray) → (arrOf st').map (·.2) = (PySem.W.sortVals (PySem.W.dataKind s.heap (bs.map k)) false keys.toList its).toArray := by
    intro st' hp hs ht
    have e := PySem.W.sort_out (rev := false) (keys := keys) (items := its.toArray) (xs := arrOf st') (κ := PySem.W.dataKind s.heap (bs.map k)) hK (by simpa using hp) (by simpa using hs) (by simpa using ht)
    have e' := congrArg List.toArray e
    rw [Array.toArray_toList] at e'
    simpa using e'
  unfold ksk_end
  dsimp only
  simp only [Bool.false_eq_true, if_false]
  by_cases h2 : its.toArray.size < 2
  · rw [if_pos h2, if_pos h2]
    refine wpAny_bind (wpAny_pure ?_)
    rw [StateT.run_pure]
    refine wpAny_bind (wpAny_pure ?_)
    dsimp only
    refine sortD_fin (st := SortSt.mk' general' (keys.zip its.toArray) #[] 7 none) (keys := keys) (ys := bs.mergeSort (PySem.W.dataLe false k)) I ha hS hn rfl (fin _ (Array.Perm.refl _) ?_ (Stable.refl _)) (each_vals oute) lm h
    intro i j hij hj
    rw [hss] at hj
    rw [List.size_toArray] at h2
    have : i = j := by omega
    subst this
    exact KeyOrd.kle_refl _
  · rw [if_neg h2, if_neg h2]
    rw [List.size_toArray] at h2
    refine wpAny_bind (g2 (by rw [Array.length_toList]; omega) _ ?_)
    refine wpAny_bind (wpAny_mono (PyProof.Rows.H.wpS_sortRunsSt (κ := PySem.W.dataKind s.heap (bs.map k)) (kd := kd) (a₀ := keys.zip its.toArray) (st := SortSt.mk' kd (keys.zip its.toArray) #[] 7 none)
      (Q := fun _ st' => failedOf st' = none ∧ (arrOf st').map (·.2) = (PySem.W.sortVals (PySem.W.dataKind s.heap (bs.map k)) false keys.toList its).toArray)
      g1 hK ⟨Array.Perm.refl _, rfl, rfl⟩ rfl (Stable.refl _) (by rw [hss]; omega) fun st' a1 a2 a3 a4 => ⟨a2, fin st' a1 a3 a4⟩) ?_ fun _ _ e => e)
    rintro ⟨⟨⟩, st'⟩ s' ⟨rfl, hf, ho⟩
    dsimp only at ho ⊢
    exact sortD_fin (keys := keys) (ys := bs.mergeSort (PySem.W.dataLe false k)) I ha hS hn hf ho (each_vals oute) lm h
/-- all stays but what N tells and the tables, which may grow -/
structure SmB (N : Addr → Prop) (H H' : Hp) : Prop where
  k0 : ∀ c o, ¬ N c → H c = some o → (∀ ps, o ≠ .tbl ps) → H' c = some o
  kt : ∀ c ps, H c = some (.tbl ps) → ∃ qs, H' c = some (.tbl qs)
  tb : LamX.Tabs TabT.T H → LamX.Tabs TabT.T H'
theorem SmB.refl {N : Addr → Prop} (H : Hp) : SmB N H H := ⟨fun _ _ _ h _ => h, fun _ ps h => ⟨ps, h⟩, id⟩
theorem SmB.trans {N : Addr → Prop} {H H1 H2 : Hp} (x : SmB N H H1) (y : SmB N H1 H2) : SmB N H H2 := ⟨fun c o nc h n => y.k0 c o nc (x.k0 c o nc h n) n, fun c ps h => let ⟨qs, z⟩ := x.kt c ps h; y.kt c qs z, fun t => y.tb (x.tb t)⟩
theorem SmT.smb {N : Addr → Prop} {H H' : Hp} (x : SmT H H') : SmB N H H' := ⟨fun c o _ h n => x.k0 c o h n, x.kt, x.tb⟩
/-- what is no table, no code object changes -/
theorem smb_of {N : Addr → Prop} {H H' : Hp} (nN : ∀ c o, N c → H c = some o → (∀ ps, o ≠ .tbl ps) ∧ ∀ φ, o ≠ .ext φ) (k : ∀ c o, ¬ N c → H c = some o → H' c = some o) : SmB N H H' := by
  have kp : ∀ c o, H c = some o → ((∃ ps, o = .tbl ps) ∨ ∃ φ, o = .ext φ) → H' c = some o := fun c o h e => k c o (fun z => by
    obtain ⟨n1, n2⟩ := nN c o z h
    rcases e with ⟨ps, e⟩ | ⟨φ, e⟩
    · exact n1 ps e
    · exact n2 φ e) h
  refine ⟨fun c o nc h _ => k c o nc h, fun c ps h => ⟨ps, kp c _ h (.inl ⟨ps, rfl⟩)⟩, fun t q hq => ?_⟩
  obtain ⟨ps, h1, h2, h3⟩ := t q hq
  refine ⟨ps, kp _ _ h1 (.inl ⟨ps, rfl⟩), h2, fun pos cv hc => ?_⟩
  obtain ⟨c, e1, e2⟩ := h3 pos cv hc
  exact ⟨c, e1, kp _ _ e2 (.inr ⟨_, rfl⟩)⟩
def TupK (H H' : Hp) : Prop := ∀ c xs, H c = some (.tup xs) → H' c = some (.tup xs)
theorem each_reads {H : Hp} {s : Shared} (I : Inv X pins σ H s) : ∀ {ks : List V} {us : List Value} {ds : List PyData}, DpAll X.K H ks ds → Vals ks us → PySem.W.EachIs (fun v d => ∃ as, Reads s.heap v d as) us ds
  | _, _, _, .nil, h => by cases h; exact .nil
  | _, _, _, .cons d t, h => by
    cases h with
    | cons r rs => exact .cons (Dp.reads I _ _ _ d r) (each_reads I t rs)
theorem dpAll_snoc {H : Hp} {y : V} {d : PyData} (h : Dp X.K H y d) : ∀ {ks : List V} {ds : List PyData}, DpAll X.K H ks ds → DpAll X.K H (ks ++ [y]) (ds ++ [d])
  | _, _, .nil => .cons h .nil
  | _, _, .cons e t => .cons e (dpAll_snoc h t)
/-- the keys are asked, one by one -/
theorem sortD_asks {f : Value} {H : Hp} {s : Shared} (I : Inv X pins σ H s) (ha : H a = some (.frz (seqObj "list" #[] e1) (.lst []))) (hS : H kS = some (.lst [])) (hn : ∀ o u, X.H_0 a ≠ some (.frz o u)) (rv : Vals (bs.map fv) its) (hz : its.length ≤ sizeLine)
    (hal : PySem.W.AllAlike (bs.map k)) (hsk : PySem.W.Sortable (bs.map k)) (hu : ∀ d ∈ bs.map k, A.units + d.depth < cLine)
    (ask : ∀ b ∈ bs, ∀ H' s' u, Inv X pins σ H' s' → SmB (fun c => c = a ∨ c = kS) H H' → RelV (fv b) u → wpAny (model X.prog X.w) A (call f [u]) (fun w s2 => ∃ y H2, Inv X pins σ H2 s2 ∧ RelV y w ∧ (∀ H3 : Hp, TupK H2 H3 → Dp X.K H3 y (k b)) ∧ SmT H' H2) (fun _ _ => False) s')
    (h : ∀ s' H', SmB (fun c => c = a ∨ c = kS) H H' → H' a = some (.lst ((bs.mergeSort (PySem.W.dataLe false k)).map fv)) → Inv X pins σ H' s' → P (.done (.ret .none)) s') :
    wpAny (model X.prog X.w) A (ksk_rest a f false its.toArray e1 (.ref kS)) P E s := by
  have nka : kS ≠ a := fun z => by rw [z, ha] at hS; cases hS
  have lb : its.length = bs.length := by rw [← rv.length, List.length_map]
  unfold ksk_rest
  refine wpAny_bind (wpAny_rule ?_)
  rw [List.forIn_toArray]
  refine wpAny_bind (ksk_fold (fun i s' => ∃ H' ks, Inv X pins σ H' s' ∧ SmB (fun c => c = a ∨ c = kS) H H' ∧ H' a = some (.frz (seqObj "list" #[] e1) (.lst [])) ∧ H' kS = some (.lst ks) ∧ ks.length = i ∧ ∀ H3, TupK H' H3 → DpAll X.K H3 ks ((bs.take i).map k)) its 0 s ⟨H, [], I, SmB.refl H, ha, hS, rfl, fun _ _ => .nil⟩ ?one ?all)
  case one =>
    rintro j v s' hv ⟨H', ks, I', sm, ha', hS', lk, dp⟩
    simp only [Nat.zero_add] at lk dp ⊢
    have hj : j < bs.length := by rw [← lb]; exact (List.getElem?_eq_some_iff.mp hv).1
    have hx : bs[j]? = some bs[j] := List.getElem?_eq_getElem hj
    generalize bs[j] = b at hx
    obtain ⟨u, hu2, rx⟩ := rv.get (i := j) (x := fv b) (by rw [List.getElem?_map, hx]; rfl)
    have eu : u = v := Option.some.inj (hu2.symm.trans hv)
    subst eu
    refine wpAny_bind (wpAny_attempt (wpAny_mono (ask b (List.mem_of_getElem? hx) H' s' u I' sm rx) (fun w s2 he => ?_) fun _ _ z => z.elim))
    obtain ⟨y, H2, I2, ry, dy, sm2⟩ := he
    have hS2 := sm2.k0 _ _ hS' (fun _ z => nomatch z)
    have ha2 := sm2.k0 _ _ ha' (fun _ z => nomatch z)
    obtain ⟨zS, itS, nS, rS, lS, hoS⟩ := I2.lstM hS2
    have ek : bs.take (j + 1) = bs.take j ++ [b] := by rw [List.take_add_one, hx]; rfl
    have l1 : (ks ++ [y]).length ≤ sizeLine := by
      rw [List.length_append, lk]
      exact Nat.le_trans (show j + 1 ≤ its.length by omega) hz
    have I3 := I2.lset (ys := ks ++ [y]) (its' := itS ++ [w]) (f := (·.push w)) (t' := s2.toks) hS2 hoS (by simp) (rS.append (.cons ry .nil)) l1
    dsimp only
    have l2 : itS.length = j := by rw [← lS, lk]
    have tk : TupK H2 (upd H2 kS (.lst (ks ++ [y]))) := fun c xs e => by rw [upd_ne (fun z => by rw [z, hS2] at e; cases e)]; exact e
    have tk1 : TupK H' H2 := fun c xs e => sm2.k0 _ _ e (fun _ z => nomatch z)
    refine wpAny_bind (listUpdate_at hoS rfl (wpAny_pure ⟨rfl, _, ks ++ [y], I3, (sm.trans sm2.smb).trans (smb_of (fun c o hc e => ?_) fun c o nc e => ?_), ?_, upd_same, by rw [List.length_append, lk]; rfl, fun H3 t3 => ?_⟩) (by rw [List.size_toArray, l2]; exact Nat.le_trans (show j ≤ its.length by omega) hz) (by rw [Array.size_push, List.size_toArray, l2]; exact Nat.le_trans (show j + 1 ≤ its.length by omega) (Nat.le_succ_of_le hz)))
    · rcases hc with rfl | rfl
      · rw [ha2] at e; cases e
        exact ⟨fun _ z => (nomatch z), fun _ z => (nomatch z)⟩
      · rw [hS2] at e; cases e
        exact ⟨fun _ z => (nomatch z), fun _ z => (nomatch z)⟩
    · rw [upd_ne (fun z => nc (.inr z))]; exact e
    · rw [upd_ne (Ne.symm nka)]; exact ha2
    · rw [ek, List.map_append]
      exact dpAll_snoc (dy H3 fun c xs e => t3 c xs (tk c xs e)) (dp H3 fun c xs e => t3 c xs (tk c xs (tk1 c xs e)))
  case all =>
    rintro s' ⟨H', ks, I', sm, ha', hS', lk, dp⟩
    have et : bs.take (0 + its.length) = bs := List.take_of_length_le (by omega)
    rw [et] at dp
    obtain ⟨zS, itS, nS, rS, lS, hoS⟩ := I'.lstM hS'
    refine wpAny_bind (listItems_at hoS rfl ?_)
    refine sortD_keyed (ks := ks) I' ha' hS' hn rv hz (by simpa using each_reads I' (dp H' fun _ _ e => e) rS) hal hsk hu fun s2 H2 q e I2 => h s2 H2 (sm.trans (smb_of (fun c o hc e3 => ?_) fun c o nc e3 => q c o (fun z => nc (.inl z)) (fun z => nc (.inr z)) e3)) e I2
    rcases hc with rfl | rfl
    · rw [ha'] at e3; cases e3
      exact ⟨fun _ z => (nomatch z), fun _ z => (nomatch z)⟩
    · rw [hS'] at e3; cases e3
      exact ⟨fun _ z => (nomatch z), fun _ z => (nomatch z)⟩
/-- list.sort(key=f) of a list that is tracked -/
theorem sortD_whole {f : Value} {H : Hp} {s : Shared} (hfr : A.frames = X.A.frames) (I : Inv X pins σ H s) (ha : H a = some (.lst (bs.map fv))) (hal : PySem.W.AllAlike (bs.map k)) (hsk : PySem.W.Sortable (bs.map k)) (hu : ∀ d ∈ bs.map k, A.units + d.depth < cLine)
    (ask : ∀ b ∈ bs, ∀ H' s' u, Inv X pins σ H' s' → SmB (fun c => c = a) H H' → RelV (fv b) u → wpAny (model X.prog X.w) A (call f [u]) (fun w s2 => ∃ y H2, Inv X pins σ H2 s2 ∧ RelV y w ∧ (∀ H3 : Hp, TupK H2 H3 → Dp X.K H3 y (k b)) ∧ SmT H' H2) (fun _ _ => False) s')
    (h : ∀ s' H', SmB (fun c => c = a) H H' → H' a = some (.lst ((bs.mergeSort (PySem.W.dataLe false k)).map fv)) → Inv X pins σ H' s' → P (.done (.ret .none)) s') :
    wpAny (model X.prog X.w) A (ksk_tree a f false) P E s := by
  obtain ⟨hz, its, n0, rv, ln, ho⟩ := I.lstM ha
  have hzi : its.length ≤ sizeLine := by rw [← ln]; exact hz
  have I1 := I.lset (ys := []) (its' := []) (f := fun _ => (#[] : Array Value)) (t' := s.toks) ha ho rfl .nil (Nat.zero_le _)
  obtain ⟨_, it1, e1, r1, _, ho1⟩ := I1.lstM upd_same
  have e0 : it1 = [] := by cases r1; rfl
  subst e0
  have hn := I.nofrz ha trivial
  obtain ⟨od, I2⟩ := I1.lock upd_same trivial
  rw [upd_upd] at I2
  have eo : od = seqObj "list" #[] e1 := by
    have q := (I2.hok a _ upd_same).1
    rw [ho1] at q
    exact (Option.some.inj q).symm
  subst eo
  unfold ksk_tree
  refine wpAny_bind (listItems_at ho rfl (wpAny_bind (listUpdate_at ho rfl (wpAny_bind (seqEpoch_at ho1 rfl (wpAny_bind (wpAny_newTuple (wpAny_bind (wpAny_newList (wpAny_holding ?_) (Nat.zero_le _))) (by simpa using hzi))))) (by rw [List.size_toArray]; exact hzi) (Nat.zero_le _))))
  have I3 := I2.kept (t' := s.toks) (h' := (s.heap.update a (Obj.mapSeq fun _ => (#[] : Array Value))).push { cls := .type "tuple", data := .seq its.toArray.toList.toArray }) fun _ _ q => Heap.get?_push_of_some _ q
  have I4 := I3.lnew (ys := []) (its := []) (t' := s.toks) .nil (Nat.zero_le _)
  have fr := I3.fresh
  generalize hk : ((s.heap.update a (Obj.mapSeq fun _ => (#[] : Array Value))).push { cls := .type "tuple", data := .seq its.toArray.toList.toArray }).objs.size = kS at I4 fr ⊢
  have old : ∀ b o, b ≠ a → H b = some o → b ≠ kS := fun b o nb e z => by
    rw [← z, upd_ne nb] at fr
    rw [e] at fr
    cases fr
  have na : a ≠ kS := fun z => by
    rw [← z, upd_same] at fr
    cases fr
  have st : SmB (fun c => c = a) H (upd (upd H a (.frz (seqObj "list" #[] e1) (.lst []))) kS (.lst [])) := smb_of (fun c o hc e => by
    subst hc
    rw [ha] at e; cases e
    exact ⟨fun _ z => (nomatch z), fun _ z => (nomatch z)⟩) fun b o nb e => by
    rw [upd_ne (old b o nb e), upd_ne nb]
    exact e
  have ad : ∀ H', SmB (fun c => c = a ∨ c = kS) (upd (upd H a (.frz (seqObj "list" #[] e1) (.lst []))) kS (.lst [])) H' → SmB (fun c => c = a) H H' := fun H' x =>
    ⟨fun c o nc e n => x.k0 c o (fun z => z.elim nc fun z => old c o nc e z) (st.k0 c o nc e n) n, fun c ps e => by
      obtain ⟨qs, z⟩ := st.kt c ps e
      exact x.kt c qs z, fun t => x.tb (st.tb t)⟩
  exact sortD_asks (k := k) I4 (by rw [upd_ne na]; exact upd_same) upd_same hn rv hzi hal hsk hu (fun b hb H' s' u I' sm rx => ask b hb H' s' u I' (ad H' sm) rx) fun s' H' sm e I' => h s' H' (ad H' sm) e I'
end
end K
namespace K
open PySem PySem.Spec PyProof.Rows L2 Rp
variable [TabT]
section
variable {prog : Program} {w : World} {A : Around} {E : Value → Shared → Prop} {s : Shared}
/-- the items of a tuple, laid anew -/
theorem collect_tupA {l : Addr} {us : List Value} {Q : List Value → Shared → Prop} (hl : IsTup s.heap l us.toArray) (sz : us.length ≤ sizeLine)
    (go : Q us { s with heap := (s.heap.push (seqObj "list" #[] 0)).update s.heap.objs.size (Obj.mapSeq (· ++ us.toArray)) }) : wpAny (model prog w) A (collect (.ref l)) Q E s := by
  obtain ⟨o, at_, cl, n, da⟩ := hl
  unfold collect
  refine wpAny_bind (wpAny_runValue (codeAny_builtin entry_proto_collect' ?_))
  refine wpAny_bind (wpAny_newList (wpAny_pure ⟨Code.quiet_builtin _ (by decide +kernel), codeAny_builtin entry_list_iadd' ?_⟩))
  show wpAny _ _ (Builtin.List.listExtendWith (.ref s.heap.objs.size) (.ref l) (.ref s.heap.objs.size)) _ _ _
  unfold Builtin.List.listExtendWith
  have at2 : (s.heap.push (seqObj "list" #[] 0)).get? l = some o := Heap.get?_push_of_some _ at_
  have emp : (s.heap.push (seqObj "list" #[] 0)).get? s.heap.objs.size = some (seqObj "list" #[] 0) := Heap.get?_push_size _ rfl
  refine wpAny_bind (wpAny_typeOf (T := "tuple") ⟨o, at2, cl⟩ ?_)
  have ty : (Value.type "tuple" == Value.type "tuple") = true := by rfl
  rw [if_pos (by rw [ty]; simp)]
  refine wpAny_bind (listItems_at at2 da (wpAny_bind (listItems_at emp rfl ?_)))
  rw [if_neg (by simp)]
  refine wpAny_bind (listUpdate_at emp rfl (wpAny_pure ?_) (Nat.zero_le _) ?_)
  · refine wpAny_bind (m := load s.heap.objs.size) (wpAny_load (get?_update_seq emp _) ?_)
    show wpAny _ _ (pure ((#[] : Array Value) ++ us.toArray).toList) Q E _
    rw [show ((#[] : Array Value) ++ us.toArray).toList = us by simp]
    exact wpAny_pure go
  · simp only [Array.size_append, List.size_toArray, List.length_nil]
    simp
    omega
end
/-- sorted(xs, key=f), f a lambda that stands at an address -/
def rSortL (K : PySem.W.Frag) (q : Str) (ps : Arguments) (bd : Expr) (sc : Scope) (a : Str) (tb : TE) : List V → List V → Hp → VK → Prop := fun vs zs H Q => ∃ (p f : Addr) (β : Type) (bs : List β) (fv : β → V) (k : β → PyData), vs = [.ref p] ∧ zs = [.ref f] ∧ (SqL K H p (bs.map fv) ∨ SqT K H p (bs.map fv)) ∧
  PySem.W.AllAlike (bs.map k) ∧ PySem.W.Sortable (bs.map k) ∧ (∀ b ∈ bs, (k b).depth ≤ 20) ∧ LamIs H f q ps bd sc ∧ (∀ b ∈ bs, ∀ H', SmT H H' → tb (L2.start [a] [fv b]) H' (fun y H2 => (∀ H3 : Hp, TupK H2 H3 → Dp K H3 y (k b)) ∧ SmT H' H2)) ∧
  ∀ l H', H l = none → SmT H H' → H' l = some (.lst ((bs.mergeSort (PySem.W.dataLe false k)).map fv)) → Q (.ref l) H'
section
variable {X : Cx}
theorem cr_sortedL {n : Nat} {q : Str} {ps : Arguments} {bd : Expr} {sc : Scope} {a : Str} {tb : TE} (S : FnScope [a] [a] sc) (hr : Room (n + 3) X.A)
    (hb : ∀ (u : Value) pm cv ctv, bindArgs (PySem.W.kla_fn "<lambda>" q ps bd sc [] pm cv ctv) ⟨[u], []⟩ = pure [(a, u)])
    (hbody : ∀ (f : Addr) (cdv : Value) (A : Around) (outer : List Env) (s : Shared) (H : Hp), Room n (A.deeper (envOfC q sc s.heap.objs.size f cdv)) → PE (cxOf CX0 X.prog X.w X.K X.mg X.base [a] q sc f cdv A outer s H E0).nox bd tb) :
    CallRK X (.builtin "sorted") [Str.ofString "key"] (rSortL X.K q ps bd sc a tb) := by
  intro pins s σ H vs zs us ws Q I r rz h
  obtain ⟨p, f, β, bs, fv, k, rfl, rfl, hs, al, so, dep, LI, ask, go⟩ := h
  obtain rfl := Vals.ref1 r
  obtain ⟨w1, rfl, e1⟩ := vals1 rz
  obtain rfl : w1 = Value.ref f := e1
  have main : ∀ its : List Value, Vals (bs.map fv) its → (bs.map fv).length ≤ sizeLine → (∀ (A : Around) (Q : List Value → Shared → Prop) (E : Value → Shared → Prop), Q its { s with heap := (s.heap.push (seqObj "list" #[] 0)).update s.heap.objs.size (Obj.mapSeq (· ++ its.toArray)) } → wpAny (model X.prog X.w) A (collect (.ref p)) Q E s) →
      wpAny (model X.prog X.w) X.A (call (.builtin "sorted") [.ref p] [(Str.ofString "key", .ref f)]) (EP X pins σ Q) X.xe s := by
    intro its rv hz co
    have hzi : its.length ≤ sizeLine := by rw [← rv.length]; exact hz
    refine call_function_entry_kw kind_sorted plain_sorted entry_sorted (PyProof.Rows.ksk_s1 _ _) ?_
    unfold Builtin.«sorted»
    refine wpAny_bind (m := checkCount "sorted" 1 1 _) (wpAny_pure (wpAny_bind (co _ _ _ (wpAny_bind (wpAny_newList ?_ hzi)))))
    have I1 : Inv X pins σ H { s with heap := (s.heap.push (seqObj "list" #[] 0)).update s.heap.objs.size (Obj.mapSeq (· ++ its.toArray)), toks := s.toks } := I.kept fun b o e => by
      rw [Heap.get?_update_ne _ _ _ _ (Nat.ne_of_lt (Heap.lt_size e))]
      exact Heap.get?_push_of_some _ e
    have I2 := I1.lnew (t' := s.toks) rv hz
    have fr := I1.fresh
    have ho := (I2.lstM upd_same).2
    generalize hg : (s.heap.push (seqObj "list" #[] 0)).update s.heap.objs.size (Obj.mapSeq (· ++ its.toArray)) = g at *
    obtain ⟨it2, n2, _, _, ho⟩ := ho
    refine wpAny_bind (wpAny_holding (wpAny_call_entry_kw slot_list_sort ⟨_, ho, rfl⟩ entry_list_sort ?_ (PyProof.Rows.ksk_l1 _ _)))
    show wpAny _ X.A.in1.in1 (Builtin.«list.sort» ⟨[.ref g.objs.size], [(Str.ofString "key", .ref f)]⟩) _ X.xe _
    rw [ksk_t1]
    have new : ∀ b o, H b = some o → b ≠ g.objs.size := fun b o e z => by rw [← z, e] at fr; cases fr
    have up : SmT H (upd H g.objs.size (.lst (bs.map fv))) := .of fun b o e => by rw [upd_ne (new b o e)]; exact e
    have all : ∀ H', SmB (fun c => c = g.objs.size) (upd H g.objs.size (.lst (bs.map fv))) H' → SmT H H' := fun H' x =>
      ⟨fun c o e n => x.k0 c o (new c o e) (up.k0 c o e n) n, fun c ps e => by
        obtain ⟨qs, z⟩ := up.kt c ps e
        exact x.kt c qs z, fun t => x.tb (up.tb t)⟩
    have un := hr.in1.in1.un
    refine sortD_whole (k := k) rfl I2 upd_same al so (fun d hd => ?_) (fun b hb2 H' s' u I' sm rx => ?_) fun s' H' sm e I' => ⟨_, rfl, ?_⟩
    · obtain ⟨b, hb2, rfl⟩ := List.mem_map.mp hd
      have := dep b hb2
      have := hr.in1.in1.units
      omega
    · have st := all H' sm
      obtain ⟨c', l1, l2⟩ := LI
      have L2' : LamIs H' f q ps bd sc := ⟨c', st.k0 _ _ l1 (fun _ z => nomatch z), st.k0 _ _ l2 (fun _ z => nomatch z)⟩
      refine wpAny_mono (lam_ask (n := n) (E := fun _ _ => False) S hr.in1.in1 rfl I' L2' rx (hb u) (hbody f) (ask b hb2 H' st)) (fun w s2 he => ?_) fun _ _ z => z
      obtain ⟨y, H2, I2, ry, dy, sm2⟩ := he
      exact ⟨y, H2, I2, ry, dy, sm2⟩
    · exact wpAny_pure ⟨_, rfl, .ref g.objs.size, H', I', rfl, go _ H' fr (all H' sm) e⟩
  rcases hs with hs | hs
  · obtain ⟨its, rv, hl, hz⟩ := I.list hs
    have hzi : its.length ≤ sizeLine := by rw [← rv.length]; exact hz
    exact main its rv hz fun A Q E q => collect_list hl.isList q hzi
  · obtain ⟨its, rv, hl, hz⟩ := I.tuple hs
    have hzi : its.length ≤ sizeLine := by rw [← rv.length]; exact hz
    exact main its rv hz fun A Q E q => collect_tupA hl hzi q
end
end K
namespace K
open PySem L2 Rp
variable [TabT]
mutual
/-- scalars, and tuples of them at any depth -/
def D.tupy : D → Bool
  | .non => true
  | .bl _ => true
  | .int _ => true
  | .str _ => true
  | .tup ds => D.tupyL ds
  | _ => false
def D.tupyL : List D → Bool
  | [] => true
  | d :: ds => D.tupy d && D.tupyL ds
end
section
variable {K : PySem.W.Frag}
mutual
theorem Dn.tupK {H H' : Hp} {M : Mk_} (t : TupK H H') : ∀ (d : D) (v : V), d.tupy = true → Dn K H M d v → Dn K H' M d v
  | .non, _, _, h => h
  | .bl _, _, _, h => h
  | .int _, _, _, h => h
  | .str _, _, _, h => h
  | .tup ds, _, p, ⟨a, vs, e, h, k⟩ => ⟨a, vs, e, t a vs h, DnL.tupK t ds vs p k⟩
  | .raw _, _, p, _ => by cases p
  | .deck, _, p, _ => by cases p
  | .lst _, _, p, _ => by cases p
  | .scr _, _, p, _ => by cases p
  | .ins _ _, _, p, _ => by cases p
  | .dic _, _, p, _ => by cases p
theorem DnL.tupK {H H' : Hp} {M : Mk_} (t : TupK H H') : ∀ (ds : List D) (vs : List V), D.tupyL ds = true → DnL K H M ds vs → DnL K H' M ds vs
  | [], _, _, h => h
  | d :: ds, _, p, ⟨u, us, e, h, k⟩ => by
    have p : (d.tupy && D.tupyL ds) = true := p
    rw [Bool.and_eq_true] at p
    exact ⟨u, us, e, Dn.tupK t d u p.1 h, DnL.tupK t ds us p.2 k⟩
end
/-- what a sort leaves -/
theorem ms_spec {α : Type} (enc : α → PyData) (rs : List α) : (rs.mergeSort (PySem.W.dataLe false enc)).Perm rs ∧ (rs.mergeSort (PySem.W.dataLe false enc)).Pairwise (fun a b => PySem.W.dataLe false enc a b = true) := by
  have tot : PySem.W.TotalLe (PySem.W.dataLe false enc) := PySem.W.sortLe_total _ _ _
  exact ⟨List.mergeSort_perm _ _, List.pairwise_mergeSort (fun a b c h1 h2 => tot.trans a b c h1 h2) (fun a b => by rcases tot.total a b with h | h <;> simp [h]) _⟩
/-- sorted(e, key=lambda ..): the keys told by kd, compared by enc -/
theorem sf_sortedL {te : TE} {τ : TDE} {tb : TE} {τb : TDE} {q : Str} {ps : Arguments} {bd : Expr} {sc : Scope} {a : Str} (h : SE K κ1 te τ) (hb : SE K 0 tb τb) :
    SF K κ1 (tCKw (rSortL K q ps bd sc a tb) (tCons te tNil) (tCons (tLamT q ps bd sc) tNil)) (fun δ Q => τ δ fun x => ∃ (α : Type) (rs : List α) (g kd : α → D) (enc : α → PyData), x.items = some (rs.map g) ∧ (∀ r ∈ rs, (g r).pure = true ∧ (kd r).tupy = true ∧ (kd r).py = some (enc r) ∧ (enc r).depth ≤ 20 ∧ ∀ P : DX → Prop, P (.d (kd r)) → τb [.dat (g r)] P) ∧
      PySem.W.AllAlike (rs.map enc) ∧ PySem.W.Sortable (rs.map enc) ∧ Q ((rs.mergeSort (PySem.W.dataLe false enc)).map g)) := ⟨fun H0 M0 H M σ δ Q Qd s qq k => by
  refine h.run H0 M0 H M σ δ _ _ s qq fun x v H1 M1 w1 e1 n1 z => ?_
  obtain ⟨α, rs, g, kd, enc, it, each, al, so, z⟩ := z
  obtain ⟨p, us, rfl, sq, nl⟩ := DX.items_is n1 it
  refine ⟨w1.tb, fun f H2 hf sm LI => ?_⟩
  have lu : us.length = rs.length := by rw [nl.len, List.length_map]
  have e1' : (us.zip rs).map Prod.fst = us := List.map_fst_zip (by omega)
  have e2' : (us.zip rs).map Prod.snd = rs := List.map_snd_zip (by omega)
  have ek : (us.zip rs).map (fun b => enc b.2) = rs.map enc := by
    have := List.map_map (f := Prod.snd) (g := enc) (l := us.zip rs)
    rw [e2'] at this
    exact this.symm
  obtain ⟨w2, x2⟩ := smt_xe w1 sm
  have inr : ∀ b ∈ us.zip rs, b.2 ∈ rs := fun b hb => by
    rw [← e2']
    exact List.mem_map_of_mem hb
  have nx : ∀ b ∈ us.zip rs, Dn K H1 M1 (g b.2) b.1 := fun b hb => DnL.zip_mem nl b hb
  refine ⟨p, f, V × α, us.zip rs, Prod.fst, fun b => enc b.2, rfl, rfl, ?_, by rw [ek]; exact al, by rw [ek]; exact so, fun b hb => (each _ (inr b hb)).2.2.2.1, LI, fun b hb2 H' st => ?_, fun l H' hl st hl' => ?_⟩
  · rw [e1']
    rcases sq with sq | sq
    · left
      rcases sq with (h | ⟨u, h⟩) | h
      · exact .inl (.inl (sm.k0 _ _ h (fun _ z => nomatch z)))
      · exact .inl (.inr ⟨u, sm.k0 _ _ h (fun _ z => nomatch z)⟩)
      · exact .inr h
    · right
      rcases sq with (h | ⟨u, h⟩) | h
      · exact .inl (.inl (sm.k0 _ _ h (fun _ z => nomatch z)))
      · exact .inl (.inr ⟨u, sm.k0 _ _ h (fun _ z => nomatch z)⟩)
      · exact .inr h
  · obtain ⟨pu, tu, py, _, go⟩ := each _ (inr b hb2)
    have tb' := st.tb w2.tb
    have s3 := sm.trans st
    have n0 : Dn K H1 M0_ (g b.2) b.1 := Dn.m0 _ _ pu (nx b hb2)
    have x3 : XT H1 M0_ H' M0_ := (smt_xe (wd0 w1.tb) s3).2.toXT
    have n3 : Dn K H' M0_ (g b.2) b.1 := Dn.xt (wd0 w1.tb) x3 _ _ n0
    refine hb.run H' M0_ H' M0_ _ [.dat (g b.2)] _ (fun y => y = .d (kd b.2)) ?_ (go _ rfl) fun y u H3 M3 w3 x4 n4 e => ?_
    · have nn : DnL K H' M0_ [g b.2] [b.1] := ⟨b.1, [], rfl, n3, rfl⟩
      exact rs_start (N := [a]) (c := 0) (wd0 tb') (by decide) nn
    · subst e
      have n4 : Dn K H3 M3 (kd b.2) u := n4
      exact ⟨fun H4 t => D.py_is _ _ _ (Dn.tupK t _ _ tu n4) py, smt_of0 x4 w3⟩
  · have sa := sm.trans st
    obtain ⟨w3, x3⟩ := smt_xe w1 sa
    have hl1 : H1 l = none := by
      cases e : H1 l with
      | none => rfl
      | some o =>
        by_cases n : ∃ ps, o = .tbl ps
        · obtain ⟨ps, rfl⟩ := n
          obtain ⟨qs, z⟩ := sm.kt l ps e
          rw [hl] at z; cases z
        · have := sm.k0 l o e fun ps z => n ⟨ps, z⟩
          rw [hl] at this; cases this
    have ml : M1 l = none := w1.no hl1
    have pm : ((us.zip rs).mergeSort (PySem.W.dataLe false fun b : V × α => enc b.2)).Perm (us.zip rs) := List.mergeSort_perm _ _
    have es : ((us.zip rs).mergeSort (PySem.W.dataLe false fun b : V × α => enc b.2)).map Prod.snd = rs.mergeSort (PySem.W.dataLe false enc) := by
      rw [List.map_mergeSort (r := PySem.W.dataLe false fun b : V × α => enc b.2) (s := PySem.W.dataLe false enc) (f := Prod.snd) fun a _ b _ => rfl, e2']
    have ow : Wd H' (M1.put l (some false)) ∧ XE 0 H1 M1 H' (M1.put l (some false)) := by
      refine ⟨⟨fun a h => ?_, fun a h => ?_, w3.tb⟩, ⟨⟨fun b o h m n => ?_, fun b ps h m => ?_, fun b h => ?_⟩, fun b h => ?_⟩, Nat.le_refl _⟩
      · by_cases e : a = l
        · subst e; rw [put_same] at h; cases h
        · rw [put_ne e] at h; exact w3.dk a h
      · by_cases e : a = l
        · subst e; exact ⟨_, hl'⟩
        · rw [put_ne e] at h; exact w3.ow a h
      · have q := x3.k0 b o h m n
        exact ⟨q.1, by rw [put_ne (ne_of_none h hl1)]; exact q.2⟩
      · have q := x3.kt b ps h m
        exact ⟨q.1, by rw [put_ne (ne_of_none h hl1)]; exact q.2⟩
      · rw [put_ne (fun e => by rw [e, ml] at h; cases h)]; exact x3.k1 b h
      · have ne : b ≠ l := fun e => by rw [e, ml] at h; cases h
        rw [put_ne ne]; exact x3.k2 b h
    refine k _ l _ _ _ ow.1 (e1.trans ow.2 |>.mono (by omega)) put_same (e1.free s.wd w1 hl1) hl' ?_ z
    rw [← es, List.map_map]
    exact DnL.of_maps fun b hb => Dn.xt w1 ow.2.toXT _ _ (nx b (pm.subset hb))⟩
end
end K
namespace K
open PySem L2 Rp
variable [TabT]
/-- a def whose code object is known -/
structure FunLm (K : PySem.W.Frag) (x qual : Str) (st : Stmt) (f : Addr) (fd : FuncData) (c : Addr) : Prop where
  ex : ∃ (oc : Value) (od : Option Addr) (kV doc pm : Value) (an : Option Addr) (ct : Value) (osl : Array (Option Value)),
    fd = PySem.W.fnOf x qual (defArgs st) (defBody st) (defScope st) .none kV doc pm an (.ref c) ct ∧ K.lookup f = some ⟨oc, od, .func fd, osl⟩ ∧ PySem.W.codeIn K (.ref c) qual = true
section
variable {P : Program} {w : World} {K : PySem.W.Frag} {mg : Str → Option Value} {base : Heap}
/-- the rule for a def that makes a lambda, over data -/
theorem okDL {x qual : Str} {st : Stmt} {f c : Addr} {fd : FuncData} {N ps : List Str} {k cc : Nat} {π : List D → (D → Prop) → Prop} (F : FunLm K x qual st f fd c) (S : FnScope N ps (defScope st)) (len : ∀ ds Q, π ds Q → ds.length = ps.length)
    (hbody : ∀ (A : Around) (outer : List Env) (s : Shared) (H : Hp) (E : XK), Room k (A.deeper (PyProof.Rows.envOfC qual (defScope st) s.heap.objs.size f (.ref c))) →
      ∃ t τ c', PSs (cxOf CX0 P w K mg base N qual (defScope st) f (.ref c) A outer s H E).nox (defBody st) t ∧ SS K c' t τ ∧ c' ≤ cc ∧ ∀ ds Q, π ds Q → τ { nx := fun _ => Q .non, rt := Q } (dstart N.length ds)) : FnOk P w K mg base CX0 (k + 1) f fd ps (spD K cc π) := by
  obtain ⟨oc, od, kV, doc, pm, an, ct, osl, rfl, lk, hcd⟩ := F.ex
  refine fn_of lk hcd S (fun vs H Q E h => ?_) fun A outer s H vs Q E hr h => ?_
  · obtain ⟨M, ds, Qd, _, _, n, p, _⟩ := h
    rw [n.len]
    exact len _ _ p
  · obtain ⟨M, ds, Qd, l, wd, n, p, q⟩ := h
    obtain ⟨t, τ, c', h1, h2, hc, h3⟩ := hbody A outer s H E hr
    exact ⟨t, h1.nox, run_body wd l n h2 hc (h3 ds Qd p) q⟩
end
/-- sorted(e, key=lambda a: body) -/
theorem pe_sortedLam {X : Cx} {n : Nat} {a : Str} {c P : Addr} {p lpos kpos pos : Pos} {e bd : Expr} {te tb : TE} {params : Arguments} {sc : Scope} (hg : Gl X "sorted") (hm : X.mg "sorted" = none) (TB : LamX.TabB X.base X.mg c P) (hcode : X.env.code = .ref c) (hmT : (P, X.env.qual ++ "<lambda>") ∈ TabT.T) (hu : ∀ q ∈ TabT.T, q.1 = P → q.2 = X.env.qual ++ "<lambda>")
    (hr : Room (n + 3) X.A) (he : PE X e te) (hbody : ∀ (f : Addr) (cdv : Value) (A : Around) (outer : List Env) (s : Shared) (H : Hp), Room n (A.deeper (PyProof.Rows.envOfC (X.env.qual ++ "<lambda>") sc s.heap.objs.size f cdv)) → PE (cxOf CX0 X.prog X.w X.K X.mg X.base [a] (X.env.qual ++ "<lambda>") sc f cdv A outer s H E0).nox bd tb)
    (S : FnScope [a] [a] sc) (hdef : defaultsOf params X.env = ([], [])) (hcl : closureFor sc X.env = pure [])
    (hb : ∀ (u : Value) pm cv ctv, bindArgs (PySem.W.kla_fn "<lambda>" (X.env.qual ++ "<lambda>") params bd sc [] pm cv ctv) ⟨[u], []⟩ = pure [(a, u)]) (hs : PySem.starEach [e] X.env = [(false, eval e X.env)] := by rfl) :
    PE X (.Call (.Name "sorted" p) [e] [⟨some "key", .Lambda params bd sc lpos, kpos⟩] pos) (tCKw (rSortL X.K (X.env.qual ++ "<lambda>") params bd sc a tb) (tCons te tNil) (tCons (tLamT (X.env.qual ++ "<lambda>") params bd sc) tNil)) :=
  pe_callBK (cr_sortedL (n := n) S hr hb hbody) hg hm (by decide +kernel) (pa_cons he pa_nil (hs := hs)) (pk_cons (pe_lamT TB hcode hmT hu hdef hcl) pk_nil) (by decide) (by decide) (by rw [hs]; rfl) (by rw [hs]; rfl)
end K
namespace K
open PySem L2 Rp
variable [TabT]
/-! names cut and put together -/
theorem nmT_len (w : List Nat) : (nmT w).length = w.length := by
  have e := TL.len_tl (nmT w)
  rw [show TL.tl (nmT w) = _ from nmT_tl w, List.length_map] at e
  exact e
theorem nmT_ext {z : Str} {w : List Nat} (h : z.cps.toList = w.map (97 + ·)) : z = nmT w := TL.ext_tl (by rw [show TL.tl (nmT w) = _ from nmT_tl w]; exact h)
theorem nmT_to (w : List Nat) (k : Nat) : cutS (nmT w) none (some (k : Int)) = nmT (w.take k) := by
  refine nmT_ext ?_
  unfold cutS
  rw [HT.sIx_none, HT.sIx_nat, nmT_len]
  show ((nmT w).cps.toList.drop 0).take (min k w.length - 0) = _
  rw [nmT_tl, List.drop_zero, Nat.sub_zero, ← List.map_take]
  congr 1
  rw [← List.take_take, List.take_of_length_le (Nat.le_refl w.length)]
theorem nmT_from (w : List Nat) (k : Nat) : cutS (nmT w) (some (k : Int)) none = nmT (w.drop k) := by
  refine nmT_ext ?_
  unfold cutS
  rw [HT.sIx_none, HT.sIx_nat, nmT_len]
  show ((nmT w).cps.toList.drop (min k w.length)).take (w.length - min k w.length) = _
  rw [nmT_tl, ← List.map_drop, ← List.map_take]
  congr 1
  rw [List.take_of_length_le (by rw [List.length_drop]; omega)]
  by_cases h : k ≤ w.length
  · rw [Nat.min_eq_left h]
  · rw [Nat.min_eq_right (by omega), List.drop_of_length_le (Nat.le_refl _), List.drop_of_length_le (by omega)]
theorem nmT_mid (w : List Nat) (j k : Nat) : cutS (nmT w) (some (j : Int)) (some (k : Int)) = nmT ((w.drop j).take (k - j)) := by
  refine nmT_ext ?_
  unfold cutS
  rw [HT.sIx_nat, HT.sIx_nat, nmT_len]
  show ((nmT w).cps.toList.drop (min j w.length)).take (min k w.length - min j w.length) = _
  rw [nmT_tl, ← List.map_drop, ← List.map_take]
  congr 1
  by_cases h : j ≤ w.length
  · rw [Nat.min_eq_left h]
    by_cases h2 : k ≤ w.length
    · rw [Nat.min_eq_left h2]
    · rw [Nat.min_eq_right (by omega), List.take_of_length_le (by rw [List.length_drop]; omega), List.take_of_length_le (by rw [List.length_drop]; omega)]
  · rw [List.drop_of_length_le (i := min j w.length) (by omega), List.drop_of_length_le (i := j) (by omega), List.take_nil, List.take_nil]
theorem nmT_app (u v : List Nat) : nmT u ++ nmT v = nmT (u ++ v) := by
  refine nmT_ext ?_
  rw [show (nmT u ++ nmT v).cps.toList = _ from TL.tl_append _ _, List.map_append]
  show (nmT u).cps.toList ++ (nmT v).cps.toList = _
  rw [nmT_tl, nmT_tl]
theorem nmT_one (j : Nat) : lt1 j = nmT [j] := nmT_ext rfl
/-- letters drawn, one by one -/
theorem lets_of : ∀ acc : List D, (∀ y ∈ acc, ∃ j : Nat, j < 26 ∧ y = .str (lt1 j)) → ∃ w : List Nat, acc = (w.map lt1).map D.str ∧ ∀ j ∈ w, j < 26
  | [], _ => ⟨[], rfl, fun _ h => nomatch h⟩
  | y :: acc, h => by
    obtain ⟨j, hj, rfl⟩ := h y List.mem_cons_self
    obtain ⟨w, rfl, hw⟩ := lets_of acc fun z hz => h z (List.mem_cons_of_mem _ hz)
    refine ⟨j :: w, rfl, fun i hi => ?_⟩
    rcases List.mem_cons.mp hi with rfl | hi
    · exact hj
    · exact hw i hi
/-- the letter at a number -/
theorem let_ix {i : Int} (h0 : 0 ≤ i) (h1 : i < 26) : ∃ j : Nat, j < 26 ∧ i = (j : Nat) ∧ L2.atI (LETS : Str).cps.toList i = some (97 + j) := by
  obtain ⟨j, rfl⟩ : ∃ j : Nat, i = (j : Int) := ⟨i.toNat, by omega⟩
  exact ⟨j, by omega, rfl, atI_nat (lets_at j (by omega)).1⟩
end K
namespace K
open PySem PySem.Spec PyProof.Rows L2 Rp
variable [TabT]
section
variable {prog : Program} {w : World} {A : Around} {E : Value → Shared → Prop} {s : Shared}
theorem fm_congr {α β : Type} {f g : α → Option β} : ∀ {l : List α}, (∀ k ∈ l, f k = g k) → l.filterMap f = l.filterMap g
  | [], _ => rfl
  | a :: l, h => by rw [List.filterMap_cons, List.filterMap_cons, h a (List.mem_cons_self ..), fm_congr fun k hk => h k (List.mem_cons_of_mem _ hk)]
theorem back_pick (xs : Array Value) : ((List.range xs.size).filterMap fun (k : Nat) => xs[(((xs.size : Int) - 1) + (k : Int) * (-1)).toNat]?).toArray = xs.toList.reverse.toArray := by
  have e : ((List.range xs.size).filterMap fun (k : Nat) => xs[(((xs.size : Int) - 1) + (k : Int) * (-1)).toNat]?) = ((List.range xs.size).map fun k => xs.size - 1 - k).filterMap (xs[·]?) := by
    rw [List.filterMap_map]
    refine fm_congr fun k hk => ?_
    have hk := List.mem_range.mp hk
    show xs[_]? = xs[xs.size - 1 - k]?
    congr 1
    omega
  rw [e, PySem.W.krv_range, List.filterMap_reverse, PySem.W.krv_all]
/-- what a slice of step -1 picks of n things -/
theorem back_applied {q : Addr} {a b c : Value} {n : Nat} {R : Int × Int × Nat → Shared → Prop} (hq : s.heap.IsSliceOf q a b c) (pa : IsPart a none) (pb : IsPart b none) (pc : IsPart c (some (-1))) (go : R ((n : Int) - 1, -1, n) s) :
    wpAny (model prog w) A (Builtin.Slice.sliceApplied (.ref q) (pure (n : Int))) R E s := by
  obtain ⟨oq, at_, _, dat⟩ := hq
  unfold Builtin.Slice.sliceApplied Builtin.Slice.sliceFields
  refine wpAny_bind (wpAny_bind (wpAny_field at_ dat (x := a) rfl (wpAny_bind (wpAny_field at_ dat (x := b) rfl (wpAny_bind (wpAny_field at_ dat (x := c) rfl (wpAny_pure ?_)))))))
  refine wpAny_bind (HT.slicePart_ pc ?_)
  show wpAny _ _ (if ((-1 : Int) == 0) = true then _ else _) _ _ s
  rw [if_neg (by decide)]
  refine wpAny_bind (HT.slicePart_ pa (wpAny_bind (HT.slicePart_ pb (wpAny_bind (wpAny_pure ?_)))))
  have pl : Builtin.Slice.slicePlaces ((n : Int) - 1) (-1) (-1) = n := by
    unfold Builtin.Slice.slicePlaces
    rw [if_neg (show ¬ ((-1 : Int) > 0) by decide)]
    by_cases h : n = 0
    · subst h; decide
    · rw [if_pos (by omega)]
      show (((n : Int) - 1 - -1 - 1) / 1 + 1).toNat = n
      rw [Int.ediv_one]
      omega
  show wpAny _ _ (pure ((n : Int) - 1, (-1 : Int), Builtin.Slice.slicePlaces ((n : Int) - 1) (-1) (-1))) _ _ s
  rw [pl]
  exact wpAny_pure go
theorem tup_back {t q : Addr} {xs : Array Value} {a b c : Value} {Q : Value → Shared → Prop} (ht : IsTup s.heap t xs) (hq : s.heap.IsSliceOf q a b c) (pa : IsPart a none) (pb : IsPart b none) (pc : IsPart c (some (-1)))
    (go : Q (.ref s.heap.objs.size) { s with heap := s.heap.push { cls := .type "tuple", data := .seq xs.toList.reverse.toArray } }) (sz : xs.size ≤ sizeLine) : wpAny (model prog w) A (getItem (.ref t) (.ref q)) Q E s := by
  have fits : sizeOk (.seq xs.toList.reverse.toArray) := by
    show xs.toList.reverse.toArray.size ≤ sizeLine
    rw [List.size_toArray, List.length_reverse, Array.length_toList]
    exact sz
  have ty : s.TypeIs (.ref q) "slice" := let ⟨oq, h1, h2, _⟩ := hq; ⟨oq, h1, h2⟩
  unfold getItem
  try with_reducible apply wpAny_holding
  first | apply wpAny_bind (wpAny_pure _) | skip
  apply wpAny_bind (wpAny_sequenceKey ht.typeIs (by decide) _)
  apply wpAny_bind (wpAny_callSpecial?_slot (name := Str.ofString "__getitem__") ht.typeIs PyProof.Rows.slot_tuple_getitem (wpAny_call_entry PyProof.Rows.slot_tuple_getitem ht.typeIs entry_tuple_getitem _ (args_tuple_getitem _ _)))
  show wpAny _ _ (Builtin.Tuple.tupleItemsOf (.ref t) >>= _) _ _ s
  apply wpAny_bind (tupleItemsOf_ ht _)
  apply wpAny_bind (wpAny_typeOf ty _)
  rw [if_pos (by decide)]
  apply wpAny_bind (back_applied hq pa pb pc _)
  have no : ¬ ((((xs.size : Int) - 1 == 0 && (-1 : Int) == 1) && xs.size == xs.size) = true) := by simp
  show wpAny _ _ (if ((((xs.size : Int) - 1 == 0 && (-1 : Int) == 1) && xs.size == xs.size) = true) then _ else _) _ _ s
  rw [if_neg no, back_pick]
  first
    | exact wpAny_bind (m := Builtin.Tuple.tupleExact _) (wpAny_newObj_type (wpAny_pure ⟨_, rfl, wpAny_pure go⟩) fits)
    | exact wpAny_bind (m := Builtin.Tuple.tupleExact _) (wpAny_newObj_type (wpAny_bind (wpAny_pure (wpAny_pure ⟨_, rfl, wpAny_pure go⟩))) fits)
    | exact wpAny_bind (wpAny_bind (m := Builtin.Tuple.tupleExact _) (wpAny_newObj_type (wpAny_pure (wpAny_pure ⟨_, rfl, wpAny_pure go⟩)) fits))
    | exact wpAny_bind (wpAny_bind (m := Builtin.Tuple.tupleExact _) (wpAny_newObj_type (wpAny_pure ⟨_, rfl, wpAny_pure go⟩) fits))
end
/-- t[::-1] of a tuple -/
def tRevT (K : PySem.W.Frag) (te : TE) : TE := fun σ H Q => te σ H fun x H1 => ∃ a xs, x = .ref a ∧ SqT K H1 a xs ∧ ∀ p, H1 p = none → Q (.ref p) (upd H1 p (.tup xs.reverse))
theorem pe_revT {X : Cx} {e : Expr} {te : TE} {k : Nat} {p1 p2 p3 pos : Pos} (he : PE X e te) : PE X (.Subscript e (.Slice none none (some (.UnaryOp .USub (.Constant (.int 1) k p1) p2)) p3) pos) (tRevT X.K te) := ⟨fun pins s σ H Q I h => by
  refine Subscript_ (thn (he.run pins s σ H _ I h) fun v s1 ⟨x, H1, I1, r1, a, xs, ex, hx, go⟩ => ?_)
  subst ex
  obtain rfl : v = .ref a := r1
  have step : PO X (some (.UnaryOp .USub (.Constant (.int 1) k p1) p2)) (tPart (tUn (rU fun i => .int (-i)) (tC (.int 1)))) := po_some (pe_un un_neg pe_int)
  refine wpAny_Slice (thn (po_none.run pins s1 σ H1 (fun o H2 => o = none ∧ H2 = H1) I1 ⟨rfl, rfl⟩) fun va s2 ⟨_, _, I2, pa, e1, e2⟩ => ?_)
  subst e1 e2
  refine thn (po_none.run pins s2 σ _ (fun o H3 => o = none ∧ H3 = _) I2 ⟨rfl, rfl⟩) fun vb s3 ⟨_, _, I3, pb, e1, e2⟩ => ?_
  subst e1 e2
  refine thn (step.run pins s3 σ _ (fun o H4 => o = some (-1) ∧ H4 = _) I3 ⟨1, rfl, -1, rfl, rfl, rfl⟩) fun vc s4 ⟨_, H4, I4, pc, e1, e2⟩ => ?_
  subst e1 e2
  have I5 : Inv X pins σ H4 { s4 with heap := s4.heap.push { cls := .type "slice", data := .fields #[va, vb, vc] } } := I4.kept (t' := s4.toks) fun b ob q => Heap.get?_push_of_some _ q
  obtain ⟨its, r, ht, hz⟩ := I5.tuple hx
  have ln : its.toArray.size = xs.length := by rw [List.size_toArray]; exact r.length.symm
  show wpAny _ X.A (subscriptTail e (.Slice none none (some (.UnaryOp .USub (.Constant (.int 1) k p1) p2)) p3) (.ref a) (.ref s4.heap.objs.size)) (EP X pins σ Q) X.xe _
  refine tail_any (ops := [.ref a, .ref s4.heap.objs.size]) ht.typeIs PyProof.Rows.slot_tuple_getitem.lookup ?_ (by with_unfolding_all rfl)
  refine tup_back ht (Heap.IsSliceOf.new _ va vb vc) pa pb pc ⟨.ref _, _, I5.laid (t' := s4.toks) (o := .tup xs.reverse) (fun b ob q => Heap.get?_push_of_some _ q) (Nat.le_refl _) ?_, rfl, go _ (I5.hok.fresh (Nat.le_refl _))⟩ (by rw [ln]; exact hz)
  exact ⟨by rw [List.length_reverse]; exact hz, _, r.reverse, IsTup.new _ _⟩⟩
section
variable {K : PySem.W.Frag}
theorem se_revT {te : TE} {τ : TDE} (h : SE K κ1 te τ) : SE K κ1 (tRevT K te) (fun δ Q => τ δ fun x => ∃ ds, x = .d (.tup ds) ∧ Q (.d (.tup ds.reverse))) := ⟨fun H0 M0 H M σ δ Q Qd s q k => h.run H0 M0 H M σ δ _ _ s q fun x v H1 M1 w1 e1 n z => by
  obtain ⟨ds, rfl, z⟩ := z
  obtain ⟨a, vs, rfl, l, nl⟩ := n
  refine ⟨a, vs, rfl, .inl (.inl l), fun p hp => k (.d (.tup ds.reverse)) _ _ M1 (new_wd hp w1) (e1.trans (new_xe hp w1)) ⟨p, vs.reverse, rfl, upd_same, ?_⟩ z⟩
  exact DnL.rev (DnL.xt w1 (new_xe (o := .tup vs.reverse) hp w1).toXT _ _ nl)⟩
end
end K
namespace K
open PySem PySem.Spec PyProof.Rows L2 Rp RZ
variable [TabT]
section
variable {K : PySem.W.Frag}
/-- zip of two tuples -/
def ωZipT (r : TDA) : TDF := fun δ Q => r δ fun as => ∃ xs ys, as = [.d (.tup xs), .d (.tup ys)] ∧ Q (zipD xs ys)
theorem si_zipT {t : TA} {r : TDA} (h : SA K κ1 t r) : SI K κ1 (iZipA K t) (ωZipT r) := ⟨fun H0 M0 H M σ δ R Rd s q k => h.run H0 M0 H M σ δ _ _ s q fun xs vs H1 M1 w1 e1 n z => by
    obtain ⟨xs, ys, rfl, z⟩ := z
    obtain ⟨v, v2, rfl, n1, n2⟩ := dx2 n
    obtain ⟨a, us, rfl, l, nl⟩ := n1
    obtain ⟨a2, us2, rfl, l2, nl2⟩ := n2
    have n1 : Dn K H1 M1 (.tup xs) (.ref a) := ⟨a, us, rfl, l, nl⟩
    have n2 : Dn K H1 M1 (.tup ys) (.ref a2) := ⟨a2, us2, rfl, l2, nl2⟩
    have there : ∀ {xs : List D} {a : Addr}, Dn K H1 M1 (.tup xs) (.ref a) → ∀ H2 M2, XT H1 M1 H2 M2 → ∃ us, SqT K H2 a us ∧ DnL K H2 M2 xs us := fun {xs a} n H2 M2 x => by
      obtain ⟨a', us', e, l', nl'⟩ := Dn.xt w1 x _ _ n
      cases e
      exact ⟨us', .inl (.inl l'), nl'⟩
    refine ⟨a, a2, us, us2, rfl, .inr ⟨.inl (.inl l), .inl (.inl l2), k _ _ H1 M1 w1 e1 ⟨fun i d H2 M2 e w2 x => ?_, fun H2 M2 w2 x => ?_⟩ z⟩⟩
    · obtain ⟨y, y2, ey, ey2, rfl⟩ := zipD_nth e
      obtain ⟨us, l1, nl⟩ := there n1 H2 M2 x
      obtain ⟨us2, l3, nl2⟩ := there n2 H2 M2 x
      obtain ⟨v, ev, nv⟩ := nl.nth ey
      obtain ⟨v2, ev2, nv2⟩ := nl2.nth ey2
      refine ⟨⟨us, us2, v, v2, l1, l3, ev, ev2⟩, ?_⟩
      rintro _ H3 ⟨T, y', y2', rfl, hT, rfl, hy, hy2⟩
      have e1 := hy us l1
      have e2 := hy2 us2 l3
      rw [ev] at e1
      rw [ev2] at e2
      cases e1
      cases e2
      have xx := (new_xe (o := .tup [v, v2]) hT w2).toXT
      exact ⟨M2, new_wd hT w2, new_xe hT w2, T, _, rfl, upd_same, _, _, rfl, Dn.xt w2 xx _ _ nv, _, _, rfl, Dn.xt w2 xx _ _ nv2, rfl⟩
    · obtain ⟨us, l1, nl⟩ := there n1 H2 M2 x
      obtain ⟨us2, l3, nl2⟩ := there n2 H2 M2 x
      refine ⟨us, us2, l1, l3, ?_⟩
      rw [nl.len, nl2.len]
      unfold zipD
      rw [List.length_map, List.length_zip]
      omega⟩
/-- -e of a whole number -/
theorem se_neg {te : TE} {τ : TDE} (h : SE K κ1 te τ) : SE K κ1 (tUn (rU fun i => .int (-i)) te) (fun δ Q => τ δ fun x => ∃ i : Int, x = .d (.int i) ∧ Q (.d (.int (-i)))) := ⟨fun H0 M0 H M σ δ Q Qd s q k => h.run H0 M0 H M σ δ _ _ s q fun x v H1 M1 w1 e1 n z => by
  obtain ⟨i, rfl, z⟩ := z
  exact ⟨i, n, k (.d (.int (-i))) _ H1 M1 w1 e1 rfl z⟩⟩
/-- xs[::-1] of a list -/
theorem sf_revL {te : TE} {τ : TDE} (h : SE K κ1 te τ) : SF K κ1 (tRevL K te) (fun δ Q => τ δ fun x => ∃ ds, x.get = .lst ds ∧ Q ds.reverse) := ⟨fun H0 M0 H M σ δ Q Qd r q k => h.run H0 M0 H M σ δ _ _ r q fun x v H1 M1 w1 e1 n1 z => by
  obtain ⟨ds, ex, z⟩ := z
  obtain ⟨a, vs, rfl, l', nl⟩ := lst_at n1 ex
  exact ⟨a, vs, rfl, .inl (.of l'), fun p hp => k _ p _ _ (M1.put p (some false)) (own_wd hp w1) (e1.trans (own_xe false hp w1)) put_same (e1.free r.wd w1 hp) upd_same (DnL.xt w1 (own_xe false hp w1).toXT _ _ nl.rev) z⟩⟩
end
end K
namespace K
open PySem PySem.Spec PyProof.Rows L2 Rp
variable [TabT]
section
variable {K : PySem.W.Frag}
/-! ### the script cut, put together with lists -/
theorem scr_sq {H : Hp} {M : Mk_} {ns : List Int} {v : V} (h : Dn K H M (.scr ns) v) : ∃ a, v = .ref a ∧ SqL K H a (ns.map V.int) := by
  obtain ⟨a, e, l⟩ := h
  refine ⟨a, e, ?_⟩
  rcases l with l | l
  · exact .inl l.1
  · exact l H
theorem ints_dn {H : Hp} {M : Mk_} : ∀ zs : List Int, DnL K H M (zs.map D.int) (zs.map V.int)
  | [] => rfl
  | z :: zs => ⟨_, _, rfl, rfl, ints_dn zs⟩
/-- what may be walked and cut as a list: a list, the script -/
def DX.lsc : DX → Option (List D)
  | .d (.lst ds) => some ds
  | .d (.scr ns) => some (ns.map .int)
  | .b ds => some ds
  | _ => none
theorem DX.lsc_is {H0 H : Hp} {M : Mk_} {x : DX} {v : V} {ds : List D} (n : Dx K H0 H M x v) (e : x.lsc = some ds) : ∃ a vs, v = .ref a ∧ SqL K H a vs ∧ DnL K H M ds vs := by
  cases x with
  | b ds =>
    cases e
    obtain ⟨a, vs, ev, _, _, l, nl⟩ := n
    exact ⟨a, vs, ev, .inl (.of l), nl⟩
  | d x =>
    cases x with
    | lst ds =>
      cases e
      obtain ⟨a, vs, ev, l, _, nl⟩ := n
      exact ⟨a, vs, ev, .inl (.of l), nl⟩
    | scr ns =>
      cases e
      obtain ⟨a, ev, l⟩ := scr_sq n
      exact ⟨a, _, ev, l, ints_dn ns⟩
    | _ => cases e
def dSlC (τ : TDE) (lo hi : Den → (Option Int → Prop) → Prop) : TDF := fun δ Q => τ δ fun x => lo δ fun l => hi δ fun u => ∃ ds, x.lsc = some ds ∧ Q (cutD ds l u)
theorem sf_slC {t : TE} {τ : TDE} {tl th : TO} {lo hi : Den → (Option Int → Prop) → Prop} (h : SE K κ1 t τ) (hl : SO K κ2 tl lo) (hh : SO K κ3 th hi) : SF K (κ1 + κ2 + κ3) (tSl (rSlL K) t tl th) (dSlC τ lo hi) := ⟨fun H0 M0 H M σ δ Q Qd r q k =>
  h.run H0 M0 H M σ δ _ _ r.l.l q fun x v H1 M1 w1 e1 n1 q1 => hl.run H0 M0 H1 M1 σ δ _ _ (r.l.xe w1 e1) q1 fun l H2 M2 w2 e2 q2 => hh.run H0 M0 H2 M2 σ δ _ _ (r.xe w2 (e1.trans e2)) q2 fun u H3 M3 w3 e3 z => by
    have n3 := n1.xe w1 (e2.trans e3)
    have e := (e1.trans e2).trans e3
    obtain ⟨ds, ex, z⟩ := z
    obtain ⟨a, vs, rfl, l', nl⟩ := DX.lsc_is n3 ex
    exact ⟨a, vs, rfl, l', fun p hp => k _ p _ _ (M3.put p (some false)) (own_wd hp w3) (e.trans (own_xe false hp w3)) put_same (e.free r.wd w3 hp) upd_same (DnL.xt w3 (own_xe false hp w3).toXT _ _ (nl.cut l u)) z⟩⟩
/-- list + list, either may be the script -/
def rCatQ (K : PySem.W.Frag) : R2 := fun x y H Q => ∃ l b xs zs, x = .ref l ∧ y = .ref b ∧ SqL K H l xs ∧ SqL K H b zs ∧ xs.length + zs.length ≤ sizeLine ∧ ∀ p, H p = none → Q (.ref p) (upd H p (.lst (xs ++ zs)))
theorem op_catQ {X : Cx} : OpR X (binaryOp .Add) (rCatQ X.K) := by
  intro pins s σ H x y v u Q I rx ry h
  obtain ⟨l, b, xs, zs, rfl, rfl, hH, hB, hz, q⟩ := h
  cases rx
  cases ry
  obtain ⟨its, r, hl, z1⟩ := I.list hH
  obtain ⟨its2, r2, hl2, z2⟩ := I.list hB
  obtain ⟨⟨cls, dd, data, sl⟩, n, ho, hc, _, hd⟩ := id hl
  obtain ⟨⟨cls2, dd2, data2, sl2⟩, n2, ho2, hc2, _, hd2⟩ := id hl2
  simp only at hc hd hc2 hd2
  subst hc hd hc2 hd2
  have e : its.toArray ++ its2.toArray = (its ++ its2).toArray := by simp
  refine concat_meets ⟨_, ho, rfl⟩ ⟨_, ho2, rfl⟩ noFill_list_add seq_list_add PySem.F.slot_list_add PySem.F.entry_list_add (PySem.F.args_list_add_2 _ _) (PyProof.Rows.list_addW l b its.toArray its2.toArray n n2 dd dd2 sl sl2 (by rw [List.size_toArray, List.size_toArray, ← r.length, ← r2.length]; exact hz)) ⟨ho, ho2, ?_⟩
  rw [e]
  exact ⟨.ref _, _, I.lnew (t' := s.toks) (r.append r2) (by rw [List.length_append]; omega), rfl, q _ I.fresh⟩
theorem sf_catQ {ta tb : TE} {a b : TDE} (ha : SE K κ1 ta a) (hb : SE K κ2 tb b) : SF K (κ1 + κ2) (tOp (rCatQ K) ta tb) (fun δ Q => a δ fun x => b δ fun y => ∃ xs ys, x.lsc = some xs ∧ y.lsc = some ys ∧ xs.length + ys.length ≤ sizeLine ∧ Q (xs ++ ys)) := ⟨fun H0 M0 H M σ δ Q Qd s h k =>
  ha.run H0 M0 H M σ δ _ _ s.l h fun x v H1 M1 w1 e1 n1 h1 => hb.run H0 M0 H1 M1 σ δ _ _ (s.xe w1 e1) h1 fun y u H2 M2 w2 e2 n2 h2 => by
    obtain ⟨xs, ys, ex, ey, lz, q⟩ := h2
    obtain ⟨a, vs, rfl, l, nl⟩ := DX.lsc_is (n1.xe w1 e2) ex
    obtain ⟨b, us, rfl, l2, nl2⟩ := DX.lsc_is n2 ey
    have e := e1.trans e2
    exact ⟨a, b, vs, us, rfl, rfl, l, l2, by rw [nl.len, nl2.len]; exact lz, fun p hp => k _ p _ _ (M2.put p (some false)) (own_wd hp w2) (e.trans (own_xe false hp w2)) put_same (e.free s.wd w2 hp) upd_same (DnL.xt w2 (own_xe false hp w2).toXT _ _ (nl.app nl2)) q⟩⟩
/-! ### order of data -/
def rLtD (K : PySem.W.Frag) : R2 := fun x y H Q => ∃ p q, Dp K H x p ∧ Dp K H y q ∧ PySem.W.alike p q = true ∧ p ≠ .none ∧ p.depth ≤ 50 ∧ Q (.bl (PySem.W.dataLt p q)) H
theorem op_ltD {X : Cx} (hu : X.A.units + 64 < cLine) : OpR X (compareOp .Lt) (rLtD X.K) := by
  intro pins s σ H x y v u Q I rx ry h
  obtain ⟨p, q, d1, d2, al, ne, dp, h⟩ := h
  obtain ⟨as, r1⟩ := Dp.reads I _ _ _ d1 rx
  obtain ⟨bs, r2⟩ := Dp.reads I _ _ _ d2 ry
  exact PySem.W.lt_data r1 r2 al ne (by have := Nat.min_le_left p.depth q.depth; omega) ⟨.bl (PySem.W.dataLt p q), H, I, rfl, h⟩
def ρLtD : DX → DX → (DX → Prop) → Prop := fun x y Q => ∃ p q, x.get.py = some p ∧ y.get.py = some q ∧ PySem.W.alike p q = true ∧ p ≠ .none ∧ p.depth ≤ 50 ∧ Q (.d (.bl (PySem.W.dataLt p q)))
theorem sr_ltD : SR2 K (rLtD K) ρLtD := ⟨fun H0 H M x y v u Q Qd w n1 n2 h k => by
  obtain ⟨p, q, e1, e2, s1, s2, s3, h⟩ := h
  exact ⟨p, q, n1.py e1, n2.py e2, s1, s2, s3, k (.d (.bl _)) _ H M w .refl rfl h⟩⟩
/-! ### xs.insert(i, y) -/
theorem sl_listC {X : Cx} : SlR X (rSlL X.K) := sl_list
def rInsert : V → List V → Hp → VK → Prop := fun x vs H Q => ∃ (l : Addr) (xs : List V) (i : Int) (y : V), x = .ref l ∧ vs = [.int i, y] ∧ H l = some (.lst xs) ∧ xs.length < sizeLine ∧ 0 ≤ i ∧ i < 2 ^ 63 ∧ Q .non (upd H l (.lst (xs.take i.toNat ++ [y] ++ xs.drop i.toNat)))
theorem mt_insertX {X : Cx} : MtR X "list.insert" rInsert := mt_insert
theorem ss_ins {K' : PySem.W.Frag} {ti t : TE} {ι τ : TDE} (i : Nat) (hi : SE K κ1 ti ι) (h : SE K κ2 t τ) : SS K (κ1 + κ2) (tDrop (tBM K' "list" rInsert (tVar i) (tCons ti (tCons t tNil)))) (fun DD δ => ∃ ds, δ[i]? = some (.own ds) ∧ ι δ fun j => τ δ fun y => ∃ (n : Nat) (d : D), j = .d (.int (n : Nat)) ∧ y = .d d ∧ n ≤ ds.length ∧ ds.length < sizeLine ∧ DD.nx (δ.set i (.own (ds.take n ++ [d] ++ ds.drop n)))) := ⟨fun ρ0 H0 M0 H M σ δ D DD r q k => by
  obtain ⟨ds, e, q⟩ := q
  obtain ⟨a, vs, s, m, n0, l, nl⟩ := r.own i ds e
  refine ⟨.ref a, s, .inl ⟨rfl, vs, .inl (.of l)⟩, hi.run H0 M0 H M σ δ _ _ (r.le (by omega)) q fun x v H' M' w' x' n z => ?_⟩
  have r1 : RS K (κ2 + ρ0) H0 M0 H' M' σ δ := r.xl w' x' (by omega)
  refine h.run H0 M0 H' M' σ δ _ _ (r1.le (by omega)) z fun y u H2 M2 w2 x2 n2 z => ?_
  obtain ⟨j, d, rfl, rfl, hj, hz, z⟩ := z
  have n : v = .int (j : Nat) := n
  subst n
  have m2 := (x2.k2 a (x'.k2 a m).1)
  have l' : H2 a = some (.lst vs) := (m2.2.trans (x'.k2 a m).2).trans l
  have sl : (sizeLine : Nat) < 2 ^ 62 := by decide
  refine ⟨a, vs, _, u, rfl, rfl, l', by rw [nl.len]; exact hz, by omega, by omega, ?_⟩
  have r2 : RS K ρ0 H0 M0 H2 M2 σ δ := r1.xl w2 x2 (by omega)
  have nl2 := DnL.xt r.wd (x'.toXT.trans x2.toXT) _ _ nl
  have n2 : Dn K H2 M2 d u := n2
  have ej : ((j : Nat) : Int).toNat = j := by simp
  rw [ej]
  exact k.nx _ _ _ _ (r2.write e s (((nl2.take j).app (es := [d]) (us := [u]) ⟨u, [], rfl, n2, rfl⟩).app (nl2.drop j))) ((x'.toXT.trans x2.toXT).trans (wr_xt m2.1)) z⟩
/-! ### own ==, != -/
def dOpOwn (C : Addr) (π : List D → (D → Prop) → Prop) (g : Bool → Bool) (K : PySem.W.Frag) (a b : TDE) : TDE := fun δ Q => a δ fun x => b δ fun y => ∃ fs e tb, x = .d (.ins C fs) ∧ y = .d e ∧ e.tyOk K tb ∧ PySem.W.notFirst K C tb = true ∧ π [.ins C fs, e] fun d => ∃ r, d = .bl r ∧ Q (.d (.bl (g r)))
theorem se_opOwn {C : Addr} {π : List D → (D → Prop) → Prop} {g : Bool → Bool} {E : XK} {ta tb : TE} {a b : TDE} {c : Nat} (ha : SE K κ1 ta a) (hb : SE K κ2 tb b) : SE K (κ1 + κ2 + c) (tOp (rOwn K C (spD K c π) E g) ta tb) (dOpOwn C π g K a b) := ⟨fun H0 M0 H M σ δ Q Qd s h k =>
  ha.run H0 M0 H M σ δ _ _ s.l.l h fun x v H1 M1 w1 e1 n1 h1 => hb.run H0 M0 H1 M1 σ δ _ _ (s.l.xe w1 e1) h1 fun y u H2 M2 w2 e2 n2 h2 => by
    obtain ⟨fs, e, tb, rfl, rfl, ty, nf, p⟩ := h2
    have n1 : Dn K H2 M2 (.ins C fs) v := n1.xe w1 e2
    have n2 : Dn K H2 M2 e u := n2
    obtain ⟨z, dx, ws, rfl, hz, nf2⟩ := id n1
    refine ⟨z, dx, ws, tb, rfl, hz, D.tyX n2 ty, nf, M2, [.ins C fs, e], _, by have := (s.xe w2 (e1.trans e2)).cr; have := s.lim; omega, w2, ⟨_, _, rfl, n1, _, _, rfl, n2, rfl⟩, p, fun d v H' M' w' e' n' q' => ?_⟩
    obtain ⟨r, rfl, q⟩ := q'
    have n' : v = .bl r := n'
    exact ⟨r, n', k (.d (.bl (g r))) _ H' M' w' ((e1.trans e2).trans e') rfl q⟩⟩
end
/-- of two promises of a def the one that fits -/
theorem od_or {P : Program} {w : World} {K : PySem.W.Frag} {mg : Str → Option Value} {base : Heap} {k c : Nat} {f : Addr} {fd : FuncData} {ps : List Str} {π1 π2 : List D → (D → Prop) → Prop} (F1 : FnOk P w K mg base CX0 k f fd ps (spD K c π1)) (F2 : FnOk P w K mg base CX0 k f fd ps (spD K c π2)) : FnOk P w K mg base CX0 k f fd ps (spD K c fun ds Q => π1 ds Q ∨ π2 ds Q) := by
  have to : ∀ (vs : List V) (H : Hp) (Q : VK) (E : XK), spD K c (fun ds Q => π1 ds Q ∨ π2 ds Q) vs H Q E → spD K c π1 vs H Q E ∨ spD K c π2 vs H Q E := by
    rintro vs H Q E ⟨M, ds, Qd, l, wd, n, p | p, q⟩
    · exact .inl ⟨M, ds, Qd, l, wd, n, p, q⟩
    · exact .inr ⟨M, ds, Qd, l, wd, n, p, q⟩
  exact ⟨fun vs H Q E h => (to _ _ _ _ h).elim (F1.len vs H Q E) (F2.len vs H Q E), fun A outer s H args us vs Q E r e b v h => (to _ _ _ _ h).elim (F1.run A outer s H args us vs Q E r e b v) (F2.run A outer s H args us vs Q E r e b v)⟩
end K
namespace K
open PySem PySem.Spec PyProof.Rows L2 Rp
variable [TabT]
/-- sorted(xs, key=f), f a def, its keys data -/
def rSortFD (K : PySem.W.Frag) (f : Addr) (sp : Sp) : List V → List V → Hp → VK → Prop := fun vs zs H Q => ∃ (p : Addr) (β : Type) (bs : List β) (fv : β → V) (k : β → PyData), vs = [.ref p] ∧ zs = [.ref f] ∧ (SqL K H p (bs.map fv) ∨ SqT K H p (bs.map fv)) ∧
  PySem.W.AllAlike (bs.map k) ∧ PySem.W.Sortable (bs.map k) ∧ (∀ b ∈ bs, (k b).depth ≤ 20) ∧ (∀ b ∈ bs, ∀ H', SmT H H' → sp [fv b] H' (fun y H2 => (∀ H3 : Hp, TupK H2 H3 → Dp K H3 y (k b)) ∧ SmT H' H2) E0) ∧
  ∀ l H', H l = none → SmT H H' → H' l = some (.lst ((bs.mergeSort (PySem.W.dataLe false k)).map fv)) → Q (.ref l) H'
section
variable {X : Cx}
theorem cr_sortedFD {n : Nat} {f : Addr} {fd : FuncData} {ps : List Str} {sp : Sp} (F : FnOk X.prog X.w X.K X.mg X.base CX0 n f fd ps sp) (hfb : Binds X.K fd ps []) (hr : Room (n + 2) X.A) :
    CallRK X (.builtin "sorted") [Str.ofString "key"] (rSortFD X.K f sp) := by
  intro pins s σ H vs zs us ws Q I r rz h
  obtain ⟨p, β, bs, fv, k, rfl, rfl, hs, al, so, dep, ask, go⟩ := h
  obtain rfl := Vals.ref1 r
  obtain ⟨w1, rfl, e1⟩ := vals1 rz
  obtain rfl : w1 = Value.ref f := e1
  have main : ∀ its : List Value, Vals (bs.map fv) its → (bs.map fv).length ≤ sizeLine → (∀ (A : Around) (Q : List Value → Shared → Prop) (E : Value → Shared → Prop), Q its { s with heap := (s.heap.push (seqObj "list" #[] 0)).update s.heap.objs.size (Obj.mapSeq (· ++ its.toArray)) } → wpAny (model X.prog X.w) A (collect (.ref p)) Q E s) →
      wpAny (model X.prog X.w) X.A (call (.builtin "sorted") [.ref p] [(Str.ofString "key", .ref f)]) (EP X pins σ Q) X.xe s := by
    intro its rv hz co
    have hzi : its.length ≤ sizeLine := by rw [← rv.length]; exact hz
    refine call_function_entry_kw kind_sorted plain_sorted entry_sorted (PyProof.Rows.ksk_s1 _ _) ?_
    unfold Builtin.«sorted»
    refine wpAny_bind (m := checkCount "sorted" 1 1 _) (wpAny_pure (wpAny_bind (co _ _ _ (wpAny_bind (wpAny_newList ?_ hzi)))))
    have I1 : Inv X pins σ H { s with heap := (s.heap.push (seqObj "list" #[] 0)).update s.heap.objs.size (Obj.mapSeq (· ++ its.toArray)), toks := s.toks } := I.kept fun b o e => by
      rw [Heap.get?_update_ne _ _ _ _ (Nat.ne_of_lt (Heap.lt_size e))]
      exact Heap.get?_push_of_some _ e
    have I2 := I1.lnew (t' := s.toks) rv hz
    have fr := I1.fresh
    have ho := (I2.lstM upd_same).2
    generalize hg : (s.heap.push (seqObj "list" #[] 0)).update s.heap.objs.size (Obj.mapSeq (· ++ its.toArray)) = g at *
    obtain ⟨it2, n2, _, _, ho⟩ := ho
    refine wpAny_bind (wpAny_holding (wpAny_call_entry_kw slot_list_sort ⟨_, ho, rfl⟩ entry_list_sort ?_ (PyProof.Rows.ksk_l1 _ _)))
    show wpAny _ X.A.in1.in1 (Builtin.«list.sort» ⟨[.ref g.objs.size], [(Str.ofString "key", .ref f)]⟩) _ X.xe _
    rw [ksk_t1]
    have new : ∀ b o, H b = some o → b ≠ g.objs.size := fun b o e z => by rw [← z, e] at fr; cases fr
    have up : SmT H (upd H g.objs.size (.lst (bs.map fv))) := .of fun b o e => by rw [upd_ne (new b o e)]; exact e
    have all : ∀ H', SmB (fun c => c = g.objs.size) (upd H g.objs.size (.lst (bs.map fv))) H' → SmT H H' := fun H' x =>
      ⟨fun c o e n => x.k0 c o (new c o e) (up.k0 c o e n) n, fun c ps e => by
        obtain ⟨qs, z⟩ := up.kt c ps e
        exact x.kt c qs z, fun t => x.tb (up.tb t)⟩
    have un := hr.in1.in1.un
    refine sortD_whole (k := k) rfl I2 upd_same al so (fun d hd => ?_) (fun b hb2 H' s' u I' sm rx => ?_) fun s' H' sm e I' => ⟨_, rfl, ?_⟩
    · obtain ⟨b, hb2, rfl⟩ := List.mem_map.mp hd
      have := dep b hb2
      have := hr.in1.in1.units
      omega
    · have st := all H' sm
      refine wpAny_mono (key_call (E := fun _ _ => False) F hfb hr.in1.in1 rfl I' rx (ask b hb2 H' st)) (fun w s2 he => ?_) fun _ _ z => z
      obtain ⟨y, H2, I2, ry, dy, sm2⟩ := he
      exact ⟨y, H2, I2, ry, dy, sm2⟩
    · exact wpAny_pure ⟨_, rfl, .ref g.objs.size, H', I', rfl, go _ H' fr (all H' sm) e⟩
  rcases hs with hs | hs
  · obtain ⟨its, rv, hl, hz⟩ := I.list hs
    have hzi : its.length ≤ sizeLine := by rw [← rv.length]; exact hz
    exact main its rv hz fun A Q E q => collect_list hl.isList q hzi
  · obtain ⟨its, rv, hl, hz⟩ := I.tuple hs
    have hzi : its.length ≤ sizeLine := by rw [← rv.length]; exact hz
    exact main its rv hz fun A Q E q => collect_tupA hl hzi q
end
section
variable {K : PySem.W.Frag}
/-- sorted(e, key=f): the keys told by kd, compared by enc -/
theorem sf_sortedFD {te : TE} {τ : TDE} {f : Addr} {π : List D → (D → Prop) → Prop} (h : SE K κ1 te τ) :
    SF K κ1 (tCKw (rSortFD K f (spD K 0 π)) (tCons te tNil) (tCons (tC (.ref f)) tNil)) (fun δ Q => τ δ fun x => ∃ (α : Type) (rs : List α) (g kd : α → D) (enc : α → PyData), x.items = some (rs.map g) ∧ (∀ r ∈ rs, (g r).pure = true ∧ (kd r).tupy = true ∧ (kd r).py = some (enc r) ∧ (enc r).depth ≤ 20 ∧ ∀ P : D → Prop, P (kd r) → π [g r] P) ∧
      PySem.W.AllAlike (rs.map enc) ∧ PySem.W.Sortable (rs.map enc) ∧ Q ((rs.mergeSort (PySem.W.dataLe false enc)).map g)) := ⟨fun H0 M0 H M σ δ Q Qd s qq k => by
  refine h.run H0 M0 H M σ δ _ _ s qq fun x v H1 M1 w1 e1 n1 z => ?_
  obtain ⟨α, rs, g, kd, enc, it, each, al, so, z⟩ := z
  obtain ⟨p, us, rfl, sq, nl⟩ := DX.items_is n1 it
  have sm : SmT H1 H1 := SmT.refl H1
  have lu : us.length = rs.length := by rw [nl.len, List.length_map]
  have e1' : (us.zip rs).map Prod.fst = us := List.map_fst_zip (by omega)
  have e2' : (us.zip rs).map Prod.snd = rs := List.map_snd_zip (by omega)
  have ek : (us.zip rs).map (fun b => enc b.2) = rs.map enc := by
    have := List.map_map (f := Prod.snd) (g := enc) (l := us.zip rs)
    rw [e2'] at this
    exact this.symm
  have w2 := w1
  have inr : ∀ b ∈ us.zip rs, b.2 ∈ rs := fun b hb => by
    rw [← e2']
    exact List.mem_map_of_mem hb
  have nx : ∀ b ∈ us.zip rs, Dn K H1 M1 (g b.2) b.1 := fun b hb => DnL.zip_mem nl b hb
  refine ⟨p, V × α, us.zip rs, Prod.fst, fun b => enc b.2, rfl, rfl, ?_, by rw [ek]; exact al, by rw [ek]; exact so, fun b hb => (each _ (inr b hb)).2.2.2.1, fun b hb2 H' st => ?_, fun l H' hl st hl' => ?_⟩
  · rw [e1']
    rcases sq with sq | sq
    · left
      rcases sq with (h | ⟨u, h⟩) | h
      · exact .inl (.inl (sm.k0 _ _ h (fun _ z => nomatch z)))
      · exact .inl (.inr ⟨u, sm.k0 _ _ h (fun _ z => nomatch z)⟩)
      · exact .inr h
    · right
      rcases sq with (h | ⟨u, h⟩) | h
      · exact .inl (.inl (sm.k0 _ _ h (fun _ z => nomatch z)))
      · exact .inl (.inr ⟨u, sm.k0 _ _ h (fun _ z => nomatch z)⟩)
      · exact .inr h
  · obtain ⟨pu, tu, py, _, go⟩ := each _ (inr b hb2)
    have tb' := st.tb w2.tb
    have s3 := sm.trans st
    have n0 : Dn K H1 M0_ (g b.2) b.1 := Dn.m0 _ _ pu (nx b hb2)
    have x3 : XT H1 M0_ H' M0_ := (smt_xe (wd0 w1.tb) s3).2.toXT
    have n3 : Dn K H' M0_ (g b.2) b.1 := Dn.xt (wd0 w1.tb) x3 _ _ n0
    refine ⟨M0_, [g b.2], fun y => y = kd b.2, by decide, wd0 tb', ⟨b.1, [], rfl, n3, rfl⟩, go _ rfl, fun y u H3 M3 w3 x4 n4 e => ?_⟩
    subst e
    exact ⟨fun H4 t => D.py_is _ _ _ (Dn.tupK t _ _ tu n4) py, smt_of0 x4 w3⟩
  · have sa := sm.trans st
    obtain ⟨w3, x3⟩ := smt_xe w1 sa
    have hl1 : H1 l = none := by
      cases e : H1 l with
      | none => rfl
      | some o =>
        by_cases n : ∃ ps, o = .tbl ps
        · obtain ⟨ps, rfl⟩ := n
          obtain ⟨qs, z⟩ := sm.kt l ps e
          rw [hl] at z; cases z
        · have := sm.k0 l o e fun ps z => n ⟨ps, z⟩
          rw [hl] at this; cases this
    have ml : M1 l = none := w1.no hl1
    have pm : ((us.zip rs).mergeSort (PySem.W.dataLe false fun b : V × α => enc b.2)).Perm (us.zip rs) := List.mergeSort_perm _ _
    have es : ((us.zip rs).mergeSort (PySem.W.dataLe false fun b : V × α => enc b.2)).map Prod.snd = rs.mergeSort (PySem.W.dataLe false enc) := by
      rw [List.map_mergeSort (r := PySem.W.dataLe false fun b : V × α => enc b.2) (s := PySem.W.dataLe false enc) (f := Prod.snd) fun a _ b _ => rfl, e2']
    have ow : Wd H' (M1.put l (some false)) ∧ XE 0 H1 M1 H' (M1.put l (some false)) := by
      refine ⟨⟨fun a h => ?_, fun a h => ?_, w3.tb⟩, ⟨⟨fun b o h m n => ?_, fun b ps h m => ?_, fun b h => ?_⟩, fun b h => ?_⟩, Nat.le_refl _⟩
      · by_cases e : a = l
        · subst e; rw [put_same] at h; cases h
        · rw [put_ne e] at h; exact w3.dk a h
      · by_cases e : a = l
        · subst e; exact ⟨_, hl'⟩
        · rw [put_ne e] at h; exact w3.ow a h
      · have q := x3.k0 b o h m n
        exact ⟨q.1, by rw [put_ne (ne_of_none h hl1)]; exact q.2⟩
      · have q := x3.kt b ps h m
        exact ⟨q.1, by rw [put_ne (ne_of_none h hl1)]; exact q.2⟩
      · rw [put_ne (fun e => by rw [e, ml] at h; cases h)]; exact x3.k1 b h
      · have ne : b ≠ l := fun e => by rw [e, ml] at h; cases h
        rw [put_ne ne]; exact x3.k2 b h
    refine k _ l _ _ _ ow.1 (e1.trans ow.2 |>.mono (by omega)) put_same (e1.free s.wd w1 hl1) hl' ?_ z
    rw [← es, List.map_map]
    exact DnL.of_maps fun b hb => Dn.xt w1 ow.2.toXT _ _ (nx b (pm.subset hb))⟩
end
def ρMulS : DX → DX → (DX → Prop) → Prop := fun x y Q => ∃ (a : Str) (n : Int), x = .d (.str a) ∧ y = .d (.int n) ∧ MulOk a n ∧ Q (.d (.str (Txt.mul a n)))
theorem sr_mulS {K : PySem.W.Frag} : SR2 K (fun x y H Q => ∃ (a : Str) (n : Int), x = .str a ∧ y = .int n ∧ MulOk a n ∧ Q (.str (Txt.mul a n)) H) ρMulS := ⟨fun H0 H M x y v u Q Qd w n1 n2 h k => by
  obtain ⟨a, n, rfl, rfl, m, h⟩ := h
  exact ⟨a, n, n1, n2, m, k (.d (.str _)) _ H M w .refl rfl h⟩⟩
end K
namespace K
open PySem PySem.Spec PyProof.Rows L2 Rp
variable [TabT]
/-! ### len(set(xs)), xs a list of tuples of whole numbers -/
def tLenSetT (K : PySem.W.Frag) (ta : TE) : TE := fun σ H Q => ta σ H fun x H1 => ∃ (l : Addr) (ks : List (Addr × List Int)), x = V.ref l ∧ SqL K H1 l (ks.map fun p => V.ref p.1) ∧ (∀ p ∈ ks, SqT K H1 p.1 (p.2.map V.int)) ∧ ks.length < 64 ∧
  ∀ L : List (List Int), L.Nodup → (∀ x, x ∈ L ↔ x ∈ ks.map (·.2)) → Q (.int L.length) H1
section
variable {X : Cx}
theorem pe_lenSetT {a : Expr} {ta : TE} {p p2 q pos : Pos} (hc : X.calm = true) (hu : X.A.units + 64 < cLine) (hg : Gl X "len") (hm : X.mg "len" = none) (hg2 : Gl X "set") (hm2 : X.mg "set" = none) (ha : PE X a ta)
    (na : starEach [a] X.env = (false, eval a X.env) :: starEach [] X.env := by rfl) : PE X (.Call (.Name "len" p) [.Call (.Name "set" p2) [a] [] q] [] pos) (tLenSetT X.K ta) := by
  refine ⟨fun pins s σ H Q I h => ?_⟩
  refine Call_ (ld_blt I hg hm PySem.boot_len ?_)
  refine PyProof.Rows.callWith_builtin1 (PyProof.Rows.args_cons ?_ rfl) rfl rfl
  refine Call_ (ld_blt I hg2 hm2 PyProof.Rows.boot_set ?_)
  refine PyProof.Rows.callWith_type1 (PyProof.Rows.args_cons (thn (ha.run pins s σ H _ I h) fun v s1 ⟨x, H1, I1, r1, q1⟩ => PyProof.Rows.args_nil ?_) na) na rfl
  obtain ⟨l, ks, rfl, hl, hk, hf, q1⟩ := q1
  cases r1
  obtain ⟨its, rv, pl, hz⟩ := I1.list hl
  refine call_set_tups (P := X.prog) (w := X.w) ks (I1.ok.hd hc) pl.isList (by simpa using refs_of_vals rv) (fun p hp => I1.isT (hk p hp)) hf (by omega) fun h' tk L es ep t R g k => ?_
  refine PyProof.Rows.args_nil ?_
  have hs : es.size = L.length := R.size (s := { s1 with heap := h' })
  have hfits : t.fits es.size = true := R.fits (s := { s1 with heap := h' })
  obtain ⟨o, ho, hex, hd⟩ := R.ob
  have few := R.few
  have I2 : Inv X pins σ H1 { s1 with heap := h', toks := tk } := I1.kept k
  refine call_len_set ho hex hd hfits (by rw [hs]; omega) ⟨.int L.length, H1, I2.tok _, ⟨_, by rw [hs]⟩, ?_⟩
  have e := q1 (L.map (·.2)) R.nd fun x => ⟨fun hx => ?_, fun hx => ?_⟩
  · rw [List.length_map] at e
    exact e
  · obtain ⟨p, hp, rfl⟩ := List.mem_map.mp hx
    exact List.mem_map.mpr ⟨p, List.mem_of_mem_take (g.sub p hp), rfl⟩
  · obtain ⟨p, hp, rfl⟩ := List.mem_map.mp hx
    exact g.all p (by rw [List.take_length]; exact hp)
end
section
variable {K : PySem.W.Frag} {κ1 : Nat}
theorem od_never {P : Program} {w : World} {mg : Str → Option Value} {base : Heap} {k c : Nat} {f : Addr} {fd : FuncData} {ps : List Str} : FnOk P w K mg base CX0 k f fd ps (spD K c fun _ _ => False) :=
  ⟨fun vs H Q E h => by obtain ⟨_, _, _, _, _, _, z, _⟩ := h; exact z.elim, fun A outer s H args us vs Q E _ _ _ _ h => by obtain ⟨_, _, _, _, _, _, z, _⟩ := h; exact z.elim⟩
theorem tups_dn {H : Hp} {M : Mk_} : ∀ {ks : List (List Int)} {vs : List V}, DnL K H M (ks.map fun k => D.tup (k.map D.int)) vs → ∃ ps : List (Addr × List Int), ps.map (·.2) = ks ∧ vs = ps.map (fun p => V.ref p.1) ∧ ∀ p ∈ ps, SqT K H p.1 (p.2.map V.int)
  | [], _, h => ⟨[], rfl, h, fun _ z => nomatch z⟩
  | k :: ks, _, ⟨u, us, e, h, r⟩ => by
    obtain ⟨ps, e1, e2, h2⟩ := tups_dn r
    obtain ⟨a, ws, rfl, l, nl⟩ := h
    rw [nl.ints] at l
    refine ⟨(a, k) :: ps, by rw [List.map_cons, e1], by rw [e, e2]; rfl, fun p hp => ?_⟩
    rcases List.mem_cons.mp hp with rfl | hp
    · exact .inl (.of l)
    · exact h2 p hp
theorem se_lenSetT {t : TE} {τ : TDE} (h : SE K κ1 t τ) : SE K κ1 (tLenSetT K t) (fun δ Q => τ δ fun x => ∃ ks : List (List Int), x.get = .lst (ks.map fun k => D.tup (k.map D.int)) ∧ ks.length < 64 ∧ ∀ L : List (List Int), L.Nodup → (∀ x, x ∈ L ↔ x ∈ ks) → Q (.d (.int (L.length : Nat)))) := ⟨fun H0 M0 H M σ δ Q Qd s q k => h.run H0 M0 H M σ δ _ _ s q fun x v H1 M1 w1 e1 n1 z => by
  obtain ⟨ks, e, l64, z⟩ := z
  obtain ⟨a, us, rfl, l, nl⟩ := lst_at n1 e
  obtain ⟨ps, e1', e2, hk⟩ := tups_dn nl
  rw [e2] at l
  have lp : ps.length = ks.length := by rw [← e1', List.length_map]
  refine ⟨a, ps, rfl, .inl (.of l), hk, by omega, fun L nd hm => ?_⟩
  rw [e1'] at hm
  exact k (.d (.int _)) _ H1 M1 w1 e1 rfl (z L nd hm)⟩
/-! ### is, is not of truths -/
def ρIsB (neg : Bool) : DX → DX → (DX → Prop) → Prop := fun x y Q => ∃ a b : Bool, x = .d (.bl a) ∧ y = .d (.bl b) ∧ Q (.d (.bl (if neg then !decide (a = b) else decide (a = b))))
theorem sr_isBl : SR2 K rIsB (ρIsB false) := ⟨fun H0 H M x y v u Q Qd w n1 n2 h k => by
  obtain ⟨a, b, rfl, rfl, q⟩ := h
  exact ⟨a, b, n1, n2, k (.d (.bl _)) _ H M w .refl rfl q⟩⟩
theorem sr_notBl : SR2 K rNotB (ρIsB true) := ⟨fun H0 H M x y v u Q Qd w n1 n2 h k => by
  obtain ⟨a, b, rfl, rfl, q⟩ := h
  exact ⟨a, b, n1, n2, k (.d (.bl _)) _ H M w .refl rfl q⟩⟩
/-! ### data equal to itself -/
structure DE (n : Nat) (d : D) : Prop where
  ex : ∃ p, d.py = some p ∧ p.canLay0 = true ∧ p.plain = true ∧ p.depth ≤ n
theorem DE.int {n : Nat} (i : Int) : DE n (.int i) := ⟨_, rfl, rfl, rfl, Nat.zero_le _⟩
theorem DE.bl {n : Nat} (i : Bool) : DE n (.bl i) := ⟨_, rfl, rfl, rfl, Nat.zero_le _⟩
theorem DE.non {n : Nat} : DE n .non := ⟨_, rfl, rfl, rfl, Nat.zero_le _⟩
theorem DE.str {n : Nat} {x : Str} (h : Asc x) : DE n (.str x) := ⟨_, rfl, by
  show x.cps.all (· < 0x110000) = true
  rw [← Array.all_toList]
  exact List.all_eq_true.mpr fun c hc => decide_eq_true (Nat.lt_trans (h c hc) (by decide)), rfl, Nat.zero_le _⟩
theorem DE.all {n : Nat} : ∀ {ds : List D}, (∀ d ∈ ds, DE n d) → ∃ ps, D.pyL ds = some ps ∧ PyData.canLayAll0 ps = true ∧ PyData.plainAll ps = true ∧ PyData.depthAll ps ≤ n
  | [], _ => ⟨[], rfl, rfl, rfl, Nat.zero_le _⟩
  | d :: ds, h => by
    obtain ⟨p, e, h1, h2, h3⟩ := (h d List.mem_cons_self).ex
    obtain ⟨ps, e', h1', h2', h3'⟩ := DE.all fun x hx => h x (List.mem_cons_of_mem _ hx)
    refine ⟨p :: ps, ?_, ?_, ?_, ?_⟩
    · show (match D.py d, D.pyL ds with | some p, some ps => some (p :: ps) | _, _ => none) = _
      rw [e, e']
    · simp [PyData.canLayAll0, h1, h1']
    · simp [PyData.plainAll, h2, h2']
    · simp [PyData.depthAll]; omega
theorem DE.tup {n : Nat} {ds : List D} (h : ∀ d ∈ ds, DE n d) : DE (n + 1) (.tup ds) := by
  obtain ⟨ps, e, h1, h2, h3⟩ := DE.all h
  refine ⟨.tuple ps, ?_, by simpa [PyData.canLay0] using h1, by simpa [PyData.plain] using h2, by simp only [PyData.depth]; omega⟩
  show (D.pyL ds).map _ = _
  rw [e]
  rfl
theorem DE.lst {n : Nat} {ds : List D} (h : ∀ d ∈ ds, DE n d) : DE (n + 1) (.lst ds) := by
  obtain ⟨ps, e, h1, h2, h3⟩ := DE.all h
  refine ⟨.list ps, ?_, by simpa [PyData.canLay0] using h1, by simpa [PyData.plain] using h2, by simp only [PyData.depth]; omega⟩
  show (D.pyL ds).map _ = _
  rw [e]
  rfl
theorem eqD_self {n : Nat} {neg : Bool} {x y : DX} {Q : DX → Prop} (d : D) (hx : x.get = d) (hy : y.get = d) (h : DE n d) (hn : n ≤ 64) (k : Q (.d (.bl (!neg)))) : ρEqD neg x y Q := by
  obtain ⟨p, e, h1, h2, h3⟩ := h.ex
  have sh : SeqAt.shaped p = true := by
    unfold SeqAt.shaped
    rw [h1, decide_eq_true (Nat.le_trans h3 hn)]
    rfl
  refine ⟨p, p, by rw [hx]; exact e, by rw [hy]; exact e, sh, sh, ?_⟩
  rw [show PyData.eqv p p = true from PySem.SeqAt.eqv_refl_plain p h2]
  cases neg <;> exact k
end
end K
namespace K
open PySem PySem.Spec PyProof.Rows L2 Rp
/-! ### len(x), x of a class with its own __len__ -/
section
variable {X : Cx} {C f : Addr} {fd : FuncData} {ps : List Str} {sp : Sp} {n : Nat} {E : XK} {CX : CXT}
theorem len_bodyO {pins : List (Addr × Obj)} {σ : L2.St} {H : Hp} {s : Shared} {a dx : Addr} {fs : List (Str × V)} {Qi : Int → Hp → Prop} (F : FnOk X.prog X.w X.K X.mg X.base CX n f fd ps sp) (hs : PySem.W.findIn X.K (.ref C) "__len__" = some (some (.ref f))) (hf : PySem.W.isFn X.K (.ref f) = true) (hb : Binds X.K fd ps []) (hx : Passes CX X E) (hr : Room (n + 1) X.A)
    (I : Inv X pins σ H s) (ha : H a = some (.ins C dx fs)) (hsp : sp [.ref a] H (fun v H' => ∃ i : Int, v = .int i ∧ 0 ≤ i ∧ i < 2 ^ 63 ∧ Qi i H') E) :
    wpAny (model X.prog X.w) X.A.in1 (Builtin.«len» ⟨[.ref a], []⟩) (fun fin s' => ∃ v, fin = .done (.ret v) ∧ ∃ (i : Int) (tk : Tok) (H' : Hp), v = .int i tk ∧ Inv X pins σ H' s' ∧ Qi i H') X.xe s := by
  obtain ⟨mA, J, _⟩ := ins_get I.hok ha
  obtain ⟨od, J, _⟩ := J.look
  unfold Builtin.«len»
  refine wpAny_bind (m := oneArg "len" _) (wpAny_pure ?_)
  refine wpAny_bind (m := callSpecial? (.ref a) (Str.ofString "__len__")) (PySem.W.special_fn I.kIn J hs (beq_iff_eq.mp hf) (wpAny_mono (callee1 F hb hx hr.in1 rfl I (x := .ref a) rfl hsp) (fun v s' k => ?_) fun _ _ k => k))
  obtain ⟨y, H', I', ry, i, rfl, i0, i1, q⟩ := k
  obtain ⟨tk, rfl⟩ := ry
  refine wpAny_bind (wpAny_holding (wpAny_pure ?_))
  refine wpAny_bind (wpAny_letGo ?_)
  show wpAny _ _ (if i < 0 then _ else _) _ _ _
  rw [if_neg (by omega)]
  show wpAny _ _ (if i ≥ 2 ^ 63 then _ else _) _ _ _
  rw [if_neg (by omega)]
  exact wpAny_bind (wpAny_mkInt (wpAny_pure ⟨_, rfl, i, _, H', rfl, I'.tok _, q⟩))
def rLenO (C : Addr) (sp : Sp) (E : XK) : List V → Hp → VK → Prop := fun vs H Q => ∃ a dx fs, vs = [.ref a] ∧ H a = some (.ins C dx fs) ∧ sp [.ref a] H (fun v H' => ∃ i : Int, v = .int i ∧ 0 ≤ i ∧ i < 2 ^ 63 ∧ Q (.int i) H') E
theorem cr_lenO (F : FnOk X.prog X.w X.K X.mg X.base CX n f fd ps sp) (hs : PySem.W.findIn X.K (.ref C) "__len__" = some (some (.ref f))) (hf : PySem.W.isFn X.K (.ref f) = true) (hb : Binds X.K fd ps []) (hx : Passes CX X E) (hr : Room (n + 1) X.A) :
    CallR X (.builtin "len") (rLenO C sp E) := by
  intro pins s σ H vs us Q I r h
  obtain ⟨a, dx, fs, rfl, ha, hsp⟩ := h
  obtain ⟨u, rfl, ru⟩ := vals1 r
  have eu : u = .ref a := ru
  subst eu
  refine Calls.call_function_entry kind_len plain_len entry_len (args_len1 _) ?_
  refine wpAny_mono (len_bodyO (Qi := fun i H' => Q (.int i) H') F hs hf hb hx hr I ha hsp) (fun fin s' k => ?_) fun _ _ k => k
  obtain ⟨v, rfl, i, tk, H', rfl, I', q⟩ := k
  exact ⟨_, rfl, .int i, H', I', ⟨_, rfl⟩, q⟩
/-- the truth of x, x of a class with its own __len__ and without __bool__ -/
def rTruO (C : Addr) (sp : Sp) (E : XK) : V → Hp → (Bool → Hp → Prop) → Prop := fun x H Q => ∃ a dx fs, x = .ref a ∧ H a = some (.ins C dx fs) ∧ sp [.ref a] H (fun v H' => ∃ i : Int, v = .int i ∧ 0 ≤ i ∧ i < 2 ^ 63 ∧ Q (decide (i ≠ 0)) H') E
theorem tru_lenO (F : FnOk X.prog X.w X.K X.mg X.base CX n f fd ps sp) (hs : PySem.W.findIn X.K (.ref C) "__len__" = some (some (.ref f))) (hf : PySem.W.isFn X.K (.ref f) = true) (hno : PySem.W.findIn X.K (.ref C) "__bool__" = some none) (hb : Binds X.K fd ps []) (hx : Passes CX X E) (hr : Room (n + 1) X.A) :
    TruR X (rTruO C sp E) := by
  intro pins s σ H x v Q I rx h
  obtain ⟨a, dx, fs, rfl, ha, hsp⟩ := h
  have eu : v = .ref a := rx
  subst eu
  obtain ⟨mA, J, _⟩ := ins_get I.hok ha
  obtain ⟨od, J, _⟩ := J.look
  have key : wpAny (model X.prog X.w) X.A (runValue (.builtin "len" ⟨[.ref a], []⟩)) (fun r s' => ∃ (i : Int) (tk : Tok) (H' : Hp), r = .int i tk ∧ Inv X pins σ H' s' ∧ Q (decide (i ≠ 0)) H') X.xe s := by
    refine wpAny_runValue (codeAny_builtin entry_len ?_)
    rw [Around.under_plainId plain_len _]
    refine wpAny_mono (len_bodyO (Qi := fun i H' => Q (decide (i ≠ 0)) H') F hs hf hb hx hr I ha hsp) (fun fin s' k => ?_) fun _ _ e => e
    obtain ⟨r, rfl, z⟩ := k
    exact z
  have hsl : ∀ {Q' : Option Value → Shared → Prop}, Q' (some (.ref f)) s → wpAny (model X.prog X.w) X.A (specialOf (.ref a) (Str.ofString "__len__")) Q' X.xe s := fun q => by
    unfold specialOf
    exact wpAny_bind (J.type.here ((PySem.W.looks_findIn I.kIn hs).here q))
  have eb : ∀ i : Int, (i != 0) = decide (i ≠ 0) := fun i => by by_cases h : i = 0 <;> simp [h]
  unfold truthy
  refine wpAny_bind (DSub.special_no (name := Str.ofString "__bool__") I.kIn J hno ?_)
  refine wpAny_bind (hsl ?_)
  show wpAny _ _ (runValue (.builtin "len" ⟨[.ref a], []⟩) >>= _) _ _ _
  refine wpAny_bind (wpAny_mono key (fun r s' k => ?_) fun _ _ e => e)
  obtain ⟨i, tk, H', rfl, I', q⟩ := k
  exact wpAny_pure ⟨H', I', by rw [eb]; exact q⟩
/-- {x} in a text, x of a class with its own __str__ -/
def tFmtO (C : Addr) (sp : Sp) (E : XK) (te : TE) : TE := fun σ H Q => te σ H fun x H1 => ∃ a dx fs, x = .ref a ∧ H1 a = some (.ins C dx fs) ∧ sp [.ref a] H1 (fun v H' => ∃ t, v = .str t ∧ Q (.str t) H') E
theorem pe_fmtO {e : Expr} {te : TE} {pos : Pos} (he : PE X e te) (F : FnOk X.prog X.w X.K X.mg X.base CX n f fd ps sp) (hs : PySem.W.findIn X.K (.ref C) "__str__" = some (some (.ref f))) (hf : PySem.W.isFn X.K (.ref f) = true) (hfm : PySem.W.findIn X.K (.ref C) "__format__" = some (some (.builtin "object.__format__"))) (hm : PySem.W.mroIn X.K C (.type "object") = some true) (hb : Binds X.K fd ps []) (hx : Passes CX X E) (hr : Room (n + 1) X.A) : PE X (.FormattedValue e (-1) none pos) (tFmtO C sp E te) := by
  refine ⟨fun pins s σ H Q I h => ?_⟩
  refine wpAny_FormattedValue_plain (thn (he.run pins s σ H _ I h) fun v s1 hv => ?_)
  obtain ⟨x, H1, I1, r1, a, dx, fs, rfl, ha, hsp⟩ := hv
  have eu : v = .ref a := r1
  subst eu
  obtain ⟨mA, J, _⟩ := ins_get I1.hok ha
  obtain ⟨od, J, _⟩ := J.look
  refine PySem.W.kfo_fieldS (by have := hr.un; show X.A.units + 1 < cLine; omega) I1.kIn J hfm hm hs hf (wpAny_mono (callee1 F hb hx hr.in1 rfl (I1.tok _) (x := .ref a) rfl hsp) (fun v s' k => ?_) fun _ _ k => k)
  obtain ⟨y, H', I', ry, t, rfl, q⟩ := k
  obtain ⟨tk, rfl⟩ := ry
  exact ⟨.str t, H', I', ⟨tk, rfl⟩, q⟩
end
end K
namespace K
open PySem L2 Rp
variable [TabT]
/-! ### an object's own words, over data -/
section
variable {K : PySem.W.Frag} {κ1 c : Nat} {C : Addr} {π : List D → (D → Prop) → Prop} {E : XK}
/-- what a def tells of an object, as its promise -/
theorem own_says {H0 H : Hp} {M : Mk_} {M0 : Mk_} {σ : L2.St} {δ : Den} {fs : List (Str × D)} {v : V} {Qd : D → Prop} {Q : VK} (s : RS K c H0 M0 H M σ δ) (n : Dn K H M (.ins C fs) v) (z : π [.ins C fs] Qd) (k : ∀ d u H' M', Wd H' M' → XE c H M H' M' → Dn K H' M' d u → Qd d → Q u H') :
    ∃ a dx ws, v = .ref a ∧ H a = some (.ins C dx ws) ∧ spD K c π [.ref a] H Q E := by
  obtain ⟨a, dx, ws, rfl, hA, nf⟩ := id n
  exact ⟨a, dx, ws, rfl, hA, M, [.ins C fs], Qd, by have := s.cr; have := s.lim; omega, s.wd, ⟨_, _, rfl, n, rfl⟩, z, k⟩
theorem se_lenO {t : TA} {r : TDA} (h : SA K κ1 t r) : SE K (κ1 + c) (tCB (rLenO C (spD K c π) E) t) (fun δ Q => r δ fun xs => ∃ fs, xs = [.d (.ins C fs)] ∧ π [.ins C fs] fun d => ∃ i : Int, d = .int i ∧ 0 ≤ i ∧ i < 2 ^ 63 ∧ Q (.d (.int i))) := ⟨fun H0 M0 H M σ δ Q Qd s q k => h.run H0 M0 H M σ δ _ _ s.l q fun xs vs H1 M1 w1 e1 n1 z => by
  obtain ⟨fs, rfl, z⟩ := z
  obtain ⟨v, rfl, n⟩ := dx1 n1
  obtain ⟨a, dx, ws, rfl, hA, z⟩ := own_says (E := E) (s.xe w1 e1) n z fun d u H' M' w' e' n' q' => (by
    obtain ⟨i, rfl, i0, i1, q'⟩ := q'
    have n' : u = .int i := n'
    exact ⟨i, n', i0, i1, k (.d (.int i)) _ H' M' w' (e1.trans e') rfl q'⟩ : ∃ i : Int, u = .int i ∧ 0 ≤ i ∧ i < 2 ^ 63 ∧ Q (.int i) H')
  exact ⟨a, dx, ws, rfl, hA, z⟩⟩
theorem se_strO {t : TA} {r : TDA} (h : SA K κ1 t r) : SE K (κ1 + c) (tCB (rStrO C (spD K c π) E) t) (fun δ Q => r δ fun xs => ∃ fs, xs = [.d (.ins C fs)] ∧ π [.ins C fs] fun d => ∃ x : Str, d = .str x ∧ Q (.d (.str x))) := ⟨fun H0 M0 H M σ δ Q Qd s q k => h.run H0 M0 H M σ δ _ _ s.l q fun xs vs H1 M1 w1 e1 n1 z => by
  obtain ⟨fs, rfl, z⟩ := z
  obtain ⟨v, rfl, n⟩ := dx1 n1
  obtain ⟨a, dx, ws, rfl, hA, z⟩ := own_says (E := E) (s.xe w1 e1) n z fun d u H' M' w' e' n' q' => (by
    obtain ⟨x, rfl, q'⟩ := q'
    have n' : u = .str x := n'
    exact ⟨x, n', k (.d (.str x)) _ H' M' w' (e1.trans e') rfl q'⟩ : ∃ x : Str, u = .str x ∧ Q (.str x) H')
  exact ⟨a, dx, ws, rfl, hA, z⟩⟩
theorem se_fmtO {t : TE} {τ : TDE} (h : SE K κ1 t τ) : SE K (κ1 + c) (tFmtO C (spD K c π) E t) (fun δ Q => τ δ fun y => ∃ fs, y = .d (.ins C fs) ∧ π [.ins C fs] fun d => ∃ x : Str, d = .str x ∧ Q (.d (.str x))) := ⟨fun H0 M0 H M σ δ Q Qd s q k => h.run H0 M0 H M σ δ _ _ s.l q fun y v H1 M1 w1 e1 n z => by
  obtain ⟨fs, rfl, z⟩ := z
  obtain ⟨a, dx, ws, rfl, hA, z⟩ := own_says (E := E) (s.xe w1 e1) n z fun d u H' M' w' e' n' q' => (by
    obtain ⟨x, rfl, q'⟩ := q'
    have n' : u = .str x := n'
    exact ⟨x, n', k (.d (.str x)) _ H' M' w' (e1.trans e') rfl q'⟩ : ∃ x : Str, u = .str x ∧ Q (.str x) H')
  exact ⟨a, dx, ws, rfl, hA, z⟩⟩
/-- a test of an object by its own __len__ -/
theorem st_truO {t : TE} {τ : TDE} (h : SE K κ1 t τ) : ST K (κ1 + c) (fun σ H Q => t σ H fun x H' => rTruO C (spD K c π) E x H' Q) (fun δ Q => τ δ fun y => ∃ fs, y = .d (.ins C fs) ∧ π [.ins C fs] fun d => ∃ i : Int, d = .int i ∧ 0 ≤ i ∧ i < 2 ^ 63 ∧ Q (decide (i ≠ 0))) := ⟨fun H0 M0 H M σ δ Q Qd s q k => h.run H0 M0 H M σ δ _ _ s.l q fun y v H1 M1 w1 e1 n z => by
  obtain ⟨fs, rfl, z⟩ := z
  obtain ⟨a, dx, ws, rfl, hA, z⟩ := own_says (E := E) (s.xe w1 e1) n z fun d u H' M' w' e' n' q' => (by
    obtain ⟨i, rfl, i0, i1, q'⟩ := q'
    have n' : u = .int i := n'
    exact ⟨i, n', i0, i1, k _ H' M' w' (e1.trans e') q'⟩ : ∃ i : Int, u = .int i ∧ 0 ≤ i ∧ i < 2 ^ 63 ∧ Q (decide (i ≠ 0)) H')
  exact ⟨a, dx, ws, rfl, hA, z⟩⟩
end
end K
namespace K
open PySem PySem.Spec PyProof.Rows L2 Rp
/-! ### bool(x), not x, x of a class with its own __len__ -/
section
variable {X : Cx} {C f : Addr} {fd : FuncData} {ps : List Str} {sp : Sp} {n : Nat} {E : XK} {CX : CXT}
theorem len_bodyA {A : Around} {pins : List (Addr × Obj)} {σ : L2.St} {H : Hp} {s : Shared} {a dx : Addr} {fs : List (Str × V)} {Qi : Int → Hp → Prop} (F : FnOk X.prog X.w X.K X.mg X.base CX n f fd ps sp) (hs : PySem.W.findIn X.K (.ref C) "__len__" = some (some (.ref f))) (hf : PySem.W.isFn X.K (.ref f) = true) (hb : Binds X.K fd ps []) (hx : Passes CX X E) (hr : Room n A) (hA : A.frames = X.A.frames)
    (I : Inv X pins σ H s) (ha : H a = some (.ins C dx fs)) (hsp : sp [.ref a] H (fun v H' => ∃ i : Int, v = .int i ∧ 0 ≤ i ∧ i < 2 ^ 63 ∧ Qi i H') E) :
    wpAny (model X.prog X.w) A (Builtin.«len» ⟨[.ref a], []⟩) (fun fin s' => ∃ v, fin = .done (.ret v) ∧ ∃ (i : Int) (tk : Tok) (H' : Hp), v = .int i tk ∧ Inv X pins σ H' s' ∧ Qi i H') X.xe s := by
  obtain ⟨mA, J, _⟩ := ins_get I.hok ha
  obtain ⟨od, J, _⟩ := J.look
  unfold Builtin.«len»
  refine wpAny_bind (m := oneArg "len" _) (wpAny_pure ?_)
  refine wpAny_bind (m := callSpecial? (.ref a) (Str.ofString "__len__")) (PySem.W.special_fn I.kIn J hs (beq_iff_eq.mp hf) (wpAny_mono (callee1 F hb hx hr hA I (x := .ref a) rfl hsp) (fun v s' k => ?_) fun _ _ k => k))
  obtain ⟨y, H', I', ry, i, rfl, i0, i1, q⟩ := k
  obtain ⟨tk, rfl⟩ := ry
  refine wpAny_bind (wpAny_holding (wpAny_pure ?_))
  refine wpAny_bind (wpAny_letGo ?_)
  show wpAny _ _ (if i < 0 then _ else _) _ _ _
  rw [if_neg (by omega)]
  show wpAny _ _ (if i ≥ 2 ^ 63 then _ else _) _ _ _
  rw [if_neg (by omega)]
  exact wpAny_bind (wpAny_mkInt (wpAny_pure ⟨_, rfl, i, _, H', rfl, I'.tok _, q⟩))
theorem tru_lenA {A : Around} {pins : List (Addr × Obj)} {σ : L2.St} {H : Hp} {s : Shared} {a dx : Addr} {fs : List (Str × V)} {Q : Bool → Hp → Prop} (F : FnOk X.prog X.w X.K X.mg X.base CX n f fd ps sp) (hs : PySem.W.findIn X.K (.ref C) "__len__" = some (some (.ref f))) (hf : PySem.W.isFn X.K (.ref f) = true) (hno : PySem.W.findIn X.K (.ref C) "__bool__" = some none) (hb : Binds X.K fd ps []) (hx : Passes CX X E) (hr : Room (n + 1) A) (hA : A.frames = X.A.frames)
    (I : Inv X pins σ H s) (ha : H a = some (.ins C dx fs)) (hsp : sp [.ref a] H (fun v H' => ∃ i : Int, v = .int i ∧ 0 ≤ i ∧ i < 2 ^ 63 ∧ Q (decide (i ≠ 0)) H') E) :
    wpAny (model X.prog X.w) A (truthy (.ref a)) (TP X pins σ Q) X.xe s := by
  obtain ⟨mA, J, _⟩ := ins_get I.hok ha
  obtain ⟨od, J, _⟩ := J.look
  have key : wpAny (model X.prog X.w) A (runValue (.builtin "len" ⟨[.ref a], []⟩)) (fun r s' => ∃ (i : Int) (tk : Tok) (H' : Hp), r = .int i tk ∧ Inv X pins σ H' s' ∧ Q (decide (i ≠ 0)) H') X.xe s := by
    refine wpAny_runValue (codeAny_builtin entry_len ?_)
    rw [Around.under_plainId plain_len _]
    refine wpAny_mono (len_bodyA (Qi := fun i H' => Q (decide (i ≠ 0)) H') F hs hf hb hx hr.in1 hA I ha hsp) (fun fin s' k => ?_) fun _ _ e => e
    obtain ⟨r, rfl, z⟩ := k
    exact z
  have hsl : ∀ {Q' : Option Value → Shared → Prop}, Q' (some (.ref f)) s → wpAny (model X.prog X.w) A (specialOf (.ref a) (Str.ofString "__len__")) Q' X.xe s := fun q => by
    unfold specialOf
    exact wpAny_bind (J.type.here ((PySem.W.looks_findIn I.kIn hs).here q))
  have eb : ∀ i : Int, (i != 0) = decide (i ≠ 0) := fun i => by by_cases h : i = 0 <;> simp [h]
  unfold truthy
  refine wpAny_bind (DSub.special_no (name := Str.ofString "__bool__") I.kIn J hno ?_)
  refine wpAny_bind (hsl ?_)
  show wpAny _ _ (runValue (.builtin "len" ⟨[.ref a], []⟩) >>= _) _ _ _
  refine wpAny_bind (wpAny_mono key (fun r s' k => ?_) fun _ _ e => e)
  obtain ⟨i, tk, H', rfl, I', q⟩ := k
  exact wpAny_pure ⟨H', I', by rw [eb]; exact q⟩
theorem bool_new_tree (v : Value) : Builtin.«bool.__new__» ⟨[.type "bool", v], []⟩ = (do
    if !(← isType (.type "bool")) then
      rule "bool.__new__.no-type"; raiseError "TypeError" s!"bool.__new__(X): X is not a type object ({← typeNameOf (.type "bool")})"
    if !(← isSubtype (.type "bool") (.type "bool")) then
      rule "bool.__new__.no-subtype"; raiseError "TypeError" s!"bool.__new__({← typeName (.type "bool")}): {← typeName (.type "bool")} is not a subtype of bool"
    ret (.bool (← truthy v))) := rfl
/-- bool(x), x of a class with its own __len__ and without __bool__ -/
def rBoolO (C : Addr) (sp : Sp) (E : XK) : List V → Hp → VK → Prop := fun vs H Q => ∃ x, vs = [x] ∧ rTruO C sp E x H fun b H' => Q (.bl b) H'
theorem cr_boolO (F : FnOk X.prog X.w X.K X.mg X.base CX n f fd ps sp) (hs : PySem.W.findIn X.K (.ref C) "__len__" = some (some (.ref f))) (hf : PySem.W.isFn X.K (.ref f) = true) (hno : PySem.W.findIn X.K (.ref C) "__bool__" = some none) (hb : Binds X.K fd ps []) (hx : Passes CX X E) (hr : Room (n + 3) X.A) :
    CallR X (.type "bool") (rBoolO C sp E) := by
  intro pins s σ H vs us Q I r h
  obtain ⟨x, rfl, a, dx, fs, rfl, ha, hsp⟩ := h
  obtain ⟨u, rfl, ru⟩ := vals1 r
  have eu : u = .ref a := ru
  subst eu
  refine callType_codes (T := "bool") (Bi := Builtin.«object.__init__») (Q₁ := fun r s₁ => ∃ y : Bool, r = .bool y ∧ ∃ H', Inv X pins σ H' s₁ ∧ Q (.bl y) H') PySem.F.called_bool (PySem.F.typeCall_bool_1 _) PySem.F.entry_object_init ?_ ?_
  · refine codeAny_of_tree ?_
    show wpAny _ X.A.in1.in1 (do checkBuiltinCall "bool.__new__" ⟨[.type "bool", .ref a], []⟩; again (.builtin "bool.__new__" ⟨[.type "bool", .ref a], []⟩)) _ _ s
    refine wpAny_bind (wpAny_of_eq (PySem.F.newCall_bool_1 _) (wpAny_pure ⟨plainId_quiet (by decide +kernel) _, codeAny_builtin PySem.F.entry_bool_new ?_⟩))
    rw [Around.under_plainId (by decide +kernel) _]
    rw [bool_new_tree]
    refine wpAny_bind (wpAny_pure ?_)
    refine wpAny_bind (wpAny_of_eq PySem.F.conv_sub_bool ?_)
    refine wpAny_bind (wpAny_mono (tru_lenA (Q := fun b H' => Q (.bl b) H') F hs hf hno hb hx hr.in1.in1 rfl I ha hsp) (fun b s₁ hq => wpAny_pure ?_) fun _ _ y => y)
    obtain ⟨H', I', q⟩ := hq
    exact ⟨_, rfl, H', I', q⟩
  · rintro obj s₁ ⟨y, rfl, H', I', q⟩
    exact ⟨PySem.typeIs_bool _ _, PySem.F.args_object_init_2 _ _, object_init_meets PySem.F.called_bool.init.lookup PySem.F.called_bool.made (by decide) X.prog X.w X.A.in1 _ s₁ ⟨PySem.typeIs_bool _ _, rfl, .bl y, H', I', rfl, q⟩⟩
/-- not x, x's truth by any rule -/
theorem pe_notR {a : Expr} {ta : TE} {pos : Pos} {r : V → Hp → (Bool → Hp → Prop) → Prop} (ha : PE X a ta) (hr : TruR X r) : PE X (.UnaryOp .Not a pos) (fun σ H Q => ta σ H fun x H1 => r x H1 fun b H2 => Q (.bl (!b)) H2) := by
  refine ⟨fun pins s σ H Q I h => ?_⟩
  refine UnaryOp_ (thn (ha.run pins s σ H _ I h) fun v s1 ⟨x, H1, I1, r1, q1⟩ => ?_)
  exact not_of (thn (hr pins s1 σ H1 x v _ I1 r1 q1) fun c s2 ⟨H2, I2, q2⟩ => ⟨.bl (!c), H2, I2, rfl, q2⟩)
end
section
variable [TabT] {K : PySem.W.Frag} {κ1 c : Nat} {C : Addr} {π : List D → (D → Prop) → Prop} {E : XK}
theorem se_boolO {t : TA} {r : TDA} (h : SA K κ1 t r) : SE K (κ1 + c) (tCB (rBoolO C (spD K c π) E) t) (fun δ Q => r δ fun xs => ∃ fs, xs = [.d (.ins C fs)] ∧ π [.ins C fs] fun d => ∃ i : Int, d = .int i ∧ 0 ≤ i ∧ i < 2 ^ 63 ∧ Q (.d (.bl (decide (i ≠ 0))))) := ⟨fun H0 M0 H M σ δ Q Qd s q k => h.run H0 M0 H M σ δ _ _ s.l q fun xs vs H1 M1 w1 e1 n1 z => by
  obtain ⟨fs, rfl, z⟩ := z
  obtain ⟨v, rfl, n⟩ := dx1 n1
  obtain ⟨a, dx, ws, rfl, hA, z⟩ := own_says (E := E) (s.xe w1 e1) n z fun d u H' M' w' e' n' q' => (by
    obtain ⟨i, rfl, i0, i1, q'⟩ := q'
    have n' : u = .int i := n'
    exact ⟨i, n', i0, i1, k (.d (.bl _)) _ H' M' w' (e1.trans e') rfl q'⟩ : ∃ i : Int, u = .int i ∧ 0 ≤ i ∧ i < 2 ^ 63 ∧ Q (.bl (decide (i ≠ 0))) H')
  exact ⟨_, rfl, a, dx, ws, rfl, hA, z⟩⟩
theorem se_notO {t : TE} {τ : TDE} (h : SE K κ1 t τ) : SE K (κ1 + c) (fun σ H Q => t σ H fun x H1 => rTruO C (spD K c π) E x H1 fun b H2 => Q (.bl (!b)) H2) (fun δ Q => τ δ fun y => ∃ fs, y = .d (.ins C fs) ∧ π [.ins C fs] fun d => ∃ i : Int, d = .int i ∧ 0 ≤ i ∧ i < 2 ^ 63 ∧ Q (.d (.bl (!(decide (i ≠ 0)))))) := ⟨fun H0 M0 H M σ δ Q Qd s q k => h.run H0 M0 H M σ δ _ _ s.l q fun y v H1 M1 w1 e1 n z => by
  obtain ⟨fs, rfl, z⟩ := z
  obtain ⟨a, dx, ws, rfl, hA, z⟩ := own_says (E := E) (s.xe w1 e1) n z fun d u H' M' w' e' n' q' => (by
    obtain ⟨i, rfl, i0, i1, q'⟩ := q'
    have n' : u = .int i := n'
    exact ⟨i, n', i0, i1, k (.d (.bl _)) _ H' M' w' (e1.trans e') rfl q'⟩ : ∃ i : Int, u = .int i ∧ 0 ≤ i ∧ i < 2 ^ 63 ∧ Q (.bl (!(decide (i ≠ 0)))) H')
  exact ⟨a, dx, ws, rfl, hA, z⟩⟩
end
end K
/-! own errors over any built-in base, with an __init__ of their own -/
namespace PySem.YK
open PySem PySem.Spec PyProof.Rows PySem.HandSPX PySem.Calls Builtin Builtin.ObjectAttr
def keM : List Value := List.map Value.type ["KeyError", "LookupError", "Exception", "BaseException", "object"]
theorem store_ke : StoreFacts "KeyError" keM "object.__setattr__" "object" := by
  refine ⟨by kernel_rfl, ?_, F.entry_object_sa, by decide +kernel, by decide +kernel, by decide +kernel, fun _ _ _ => by unfold argsOk; kernel_rfl, fun _ => by kernel_rfl⟩
  refine .of (owner := "object") (n := "__setattr__") ?_ (by decide +kernel) (by decide +kernel) (by decide +kernel) ?_ ?_
  · rw [typeLookup_type, builtinLookup_eq_fast]
    kernel_rfl
  · first
      | exact .inl (by decide +kernel)
      | exact .inr (by decide +kernel)
  · rw [isSubtype_type]
    kernel_rfl
section
variable {B newId initId : String} {bm bmB : List Value}
/-- what the making of such an error asks of its bases -/
structure MkF (newId : String) (bm : List Value) : Prop where
  ex : ∃ (B initId : String) (bmB : List Value), ExcBaseFacts B newId initId bmB ∧ bm.contains (.type B) = true
  noA : bm.contains (.type "AttributeError") = false
  noN : bm.contains (.type "NameError") = false
end
section
variable {prog : Program} {w : World} {A : Around} {E : Value → Shared → Prop} {R : Result → Shared → Prop} {h : Heap} {g : Array GenState} {d : Drawn} {t : Nat} {os : OsState}
variable {nm q : Str} {C N : Addr} {bs bm bmB : List Value} {hdct : Bool} {sn : List Str} {sub : List Value} {ab : Bool} {col : Option Bool} {dd : Option Addr}
variable {k0 k1 k2 k3 k5 : Option Value} {B newId initId : String}
theorem with_C {X : String} {b : Bool} (h : bm.contains (.type X) = b) : (Value.ref C :: bm).contains (.type X) = b := by
  rw [List.contains_cons, h]
  cases b <;> rfl
theorem ck_new {M : Model} (F : ExcBaseFacts B newId initId bmB) (hB : bm.contains (.type B) = true) {rest : List Value} {Q : Unit → Shared → Prop}
    (hC : h.get? C = some (excClassObj nm q C N bs bm hdct sn sub ab col dd k0 k1 k2 k3 k5 newId)) (hq : Q () ⟨h, g, d, t, os⟩) :
    wpAny M A (checkBuiltinCall newId ⟨.ref C :: rest, []⟩) Q E ⟨h, g, d, t, os⟩ := by
  have sB := with_C (C := C) hB
  have sStar := F.noStar
  simp only [checkBuiltinCall, F.newKind,
    F.newSplit, F.newRow]
  repeat first
    | refine wpAny_loadPart_at hC ?_
    | (refine wpAny_isSubtype_exc hC ?_; rw [sB])
    | refine wpAny_staticBase_exc hC ?_
    | refine wpAny_madeBy_exc hC ?_
    | simp only [bne_self_eq_false, Bool.false_eq_true, if_false]
    | wp_step
  exact hq
theorem do_new (F : ExcBaseFacts B newId initId bmB) (hB : bm.contains (.type B) = true) (hA : bm.contains (.type "AttributeError") = false) (hN : bm.contains (.type "NameError") = false) {rest : List Value}
    (hC : h.get? C = some (excClassObj nm q C N bs bm hdct sn sub ab col dd k0 k1 k2 k3 k5 newId)) (hl : rest.length ≤ sizeLine)
    (hq : R (.ok (.ret (.ref (h.objs.size + 1)))) ⟨(h.push (W.kdv_tup rest)).push (excO C h.objs.size), g, d, t, os⟩) : codeAny (model prog w) A (.builtin newId ⟨.ref C :: rest, []⟩) R ⟨h, g, d, t, os⟩ := by
  have sEnds := F.ends
  have sB := with_C (C := C) hB
  have sA := with_C (C := C) hA
  have sN := with_C (C := C) hN
  refine codeAny_builtinAt F.entry ?_
  unfold Builtin.«BaseException.__new__»
  refine wpAt_bind ?_
  show wpAt _ _ _ (stack >>= _) _ _ _
  refine wpAt_bind (wpAt_stack fun p b => wpAt_of_wpAny ?_)
  wp_walk
  refine wpAt_of_wpAny ?_
  rw [F.owner]
  repeat first
    | with_reducible refine wpAny_madeHere_exc F.canon hC ?_
    | with_reducible refine wpAny_loadPart_at hC ?_
    | (with_reducible refine wpAny_isSubtype_exc hC ?_; first | rw [sB] | rw [sA] | rw [sN])
    | wp_step
  show R _ _
  rw [Heap.size_push]
  exact hq
theorem do_type (F : ExcBaseFacts B newId initId bmB) (hB : bm.contains (.type B) = true) (hA : bm.contains (.type "AttributeError") = false) (hN : bm.contains (.type "NameError") = false) {rest : List Value} {fI : Addr} {Q : Fin → Shared → Prop}
    (hC : h.get? C = some (excClassObj nm q C N bs bm hdct sn sub ab col dd k0 k1 k2 k3 k5 newId)) (hi : W.Looks (model prog w) h (typeLookup (.ref C) "__init__") (some (.ref fI)))
    (hb : ∀ self, W.Looks (model prog w) h (bindSpecial (.ref fI) self) (.ref fI, [self])) (hl : rest.length ≤ sizeLine)
    (hq : codeAny (model prog w) A (.call (.ref fI) ⟨.ref (h.objs.size + 1) :: rest, []⟩)
      (fun r s' => match r with | .ok (.ret v) => v = .none ∧ Q (.done (.ret (.ref (h.objs.size + 1)))) s' | .ok _ => False | .error e => E e s') ⟨(h.push (W.kdv_tup rest)).push (excO C h.objs.size), g, d, t, os⟩) :
    wpAny (model prog w) A (Builtin.«type.__call__» ⟨.ref C :: rest, []⟩) Q E ⟨h, g, d, t, os⟩ := by
  repeat first
    | with_reducible refine wpAny_loadPart_at hC ?_
    | with_reducible refine wpAny_madeBy_exc hC ?_
    | wp_step
  refine codeAny_call_builtin_code (Code.quiet_builtin _ F.quiet) (ck_new F hB hC (do_new F hB hA hN hC hl ?_))
  show wpAny _ _ _ _ _ _
  have kp : ∀ b o, h.get? b = some o → ((h.push (W.kdv_tup rest)).push (excO C h.objs.size)).get? b = some o := fun b o e => Heap.get?_push_of_some _ (Heap.get?_push_of_some _ e)
  have atC := kp _ _ hC
  have atE : ((h.push (W.kdv_tup rest)).push (excO C h.objs.size)).get? (h.objs.size + 1) = some (excO C h.objs.size) := by heap_get
  have own : (Value.ref C :: bm).contains (.ref C) = true := by simp
  have i1 := hi.keeps kp
  have b1 := (hb (.ref (h.objs.size + 1))).keeps kp
  unfold isInstance
  repeat first
    | with_reducible refine wpAny_loadPart_at atE ?_
    | (with_reducible refine wpAny_isSubtype_exc atC ?_; rw [own])
    | wp_step
  show wpAny _ _ (typeLookup (.ref C) _) _ _ _
  refine i1.at (wpAny_holding (wpAny_bind (b1.at ?_)))
  refine wpAny_bind (wpAny_call (codeAny_mono hq fun r s' z => ?_))
  rcases r with e | (v | _ | _ | _)
  all_goals first
    | exact z
    | exact z.elim
    | skip
  obtain ⟨rfl, z⟩ := z
  first
    | exact wpAny_pure (wpAny_pure z)
    | (wp_walk; exact z)
/-- C(..), C an own error with its own __init__ -/
theorem do_call (F : MkF newId bm) {rest : List Value} {fI : Addr} (hC : h.get? C = some (excClassObj nm q C N bs bm hdct sn sub ab col dd k0 k1 k2 k3 k5 newId))
    (hi : W.Looks (model prog w) h (typeLookup (.ref C) "__init__") (some (.ref fI))) (hb : ∀ self, W.Looks (model prog w) h (bindSpecial (.ref fI) self) (.ref fI, [self])) (hl : rest.length ≤ sizeLine)
    (hq : codeAny (model prog w) (A.under (.builtin "type.__call__" ⟨.ref C :: rest, []⟩)) (.call (.ref fI) ⟨.ref (h.objs.size + 1) :: rest, []⟩) (W.InitBack (h.objs.size + 1) R) ⟨(h.push (W.kdv_tup rest)).push (excO C h.objs.size), g, d, t, os⟩) :
    codeAny (model prog w) A (.call (.ref C) ⟨rest, []⟩) R ⟨h, g, d, t, os⟩ := by
  obtain ⟨B, initId, bmB, F1, hB⟩ := F.ex
  have f1 := tc_lookup
  have f2 := tc_bind (.ref C)
  have ty : (⟨h, g, d, t, os⟩ : Shared).TypeIs (.ref C) "type" := ⟨_, hC, rfl⟩
  refine codeAny_of_tree ?_
  show wpAny _ _ (callAny (.ref C) _) _ _ _
  repeat any_goals first
    | assumption
    | with_reducible refine wpAny_loadPart_at hC ?_
    | wp_step
  refine ⟨rfl, codeAny_call_builtin_at (Code.quiet_builtin _ (by decide +kernel)) entry_typeCall (wpAny_check_type_call_sub hC ?_)⟩
  refine do_type F1 hB F.noA F.noN hC hi hb hl (codeAny_mono hq fun r s' z => ?_)
  rcases r with e | (v | _ | _ | _)
  all_goals exact z
end
end PySem.YK
namespace PySem.YK
open PySem PySem.Spec PyProof.Rows PySem.HandSPX PySem.Calls Builtin Builtin.ObjectAttr
section
variable {prog : Program} {w : World} {A : Around} {R : Result → Shared → Prop} {hp : Heap} {g : Array GenState} {d : Drawn} {t : Nat} {os : OsState}
variable {K : W.Frag} {name : Str} {tk : Tok} {v : Value} {x C : Addr} {fv : Array Value} {cd : ClassData} {B : String} {bmB : List Value}
theorem no_taker (ha : W.findIn K (.ref C) name = some none) : W.takerIn K C name = some none := by
  unfold W.takerIn
  rw [ha]
  rfl
/-- the first field -/
theorem sto_new (SF : StoreFacts B bmB "object.__setattr__" "object") (X : K.In hp) (hx : hp.get? x = some { cls := .ref C, data := .fields fv }) (ho : W.excOver K C bmB = true) (hcd : W.clsIn K C = some cd) (hh : cd.hasDict = true) (ha : W.findIn K (.ref C) name = some none)
    (hq : ∀ h' tk' dx, (∀ b o, b ≠ x → hp.get? b = some o → h'.get? b = some o) → hp.objs.size ≤ dx → dx ≠ x → h'.get? x = some { cls := .ref C, dict := some dx, data := .fields fv } → h'.Ns1 dx (fun y => if y = name then some v else none) → R (.ok (.ret .none)) ⟨h', g, d, tk', os⟩) :
    codeAny (model prog w) A (.call (.builtin "object.__setattr__") ⟨[.ref x, .str name tk, v], []⟩) R ⟨hp, g, d, t, os⟩ := by
  have lt : x ≠ hp.objs.size := Nat.ne_of_lt (Heap.lt_size hx)
  have cls : W.Looks (model prog w) hp (classData C) cd := W.looks_clsIn X hcd
  refine W.osa_openX (od := none) SF X ⟨hx, rfl, rfl, trivial⟩ ho (no_taker ha) fun b => ?_
  show wpAny _ _ (storeInOwnDict (.ref x) (.ref C) (.str name tk) name v b) _ _ _
  obtain ⟨nm, bs, mro, ns, qn, hd, sn, sb, ab, col, del⟩ := cd
  obtain rfl : hd = true := hh
  unfold storeInOwnDict ownDictForStores
  repeat first
    | with_reducible refine store_in_new ?_ ?_
    | with_reducible refine wpAny_loadPart_at hx ?_
    | with_reducible refine cls.at ?_
    | wp_step
  · refine ⟨_, #[], _, (Heap.get?_update_ne _ _ _ _ lt.symm).trans (Heap.get?_push_at rfl rfl), rfl, fun e he => absurd he (by simp), fun _ => rfl⟩
  · intro h' tk' hn hs
    have hx1 : (hp.push { cls := .type "dict", data := .dict #[] }).get? x = some { cls := .ref C, data := .fields fv } := Heap.get?_push_of_some _ hx
    refine hq h' tk' hp.objs.size (fun b o hb ho => ?_) (Nat.le_refl _) lt.symm ((hs.2 x lt).trans (Heap.get?_update_self _ hx1 rfl)) hn
    exact (hs.2 b (Nat.ne_of_lt (Heap.lt_size ho))).trans ((Heap.get?_update_ne _ _ _ _ hb).trans (Heap.get?_push_of_some _ ho))
/-- a further one -/
theorem sto_old {dx : Addr} {m0 : Str → Option Value} {nl : List Str} (SF : StoreFacts B bmB "object.__setattr__" "object") (X : K.In hp) (hx : hp.get? x = some { cls := .ref C, dict := some dx, data := .fields fv }) (hns : hp.Ns1 dx m0) (hw : Within m0 nl) (hz : nl.length ≤ 1000)
    (ho : W.excOver K C bmB = true) (hcd : W.clsIn K C = some cd) (hh : cd.hasDict = true) (ha : W.findIn K (.ref C) name = some none)
    (hq : ∀ h' tk', (∀ b o, b ≠ dx → hp.get? b = some o → h'.get? b = some o) → h'.Ns1 dx (fun y => if y = name then some v else m0 y) → R (.ok (.ret .none)) ⟨h', g, d, tk', os⟩) :
    codeAny (model prog w) A (.call (.builtin "object.__setattr__") ⟨[.ref x, .str name tk, v], []⟩) R ⟨hp, g, d, t, os⟩ := by
  obtain ⟨oD, esD, epD, hoD, hdD, _⟩ := hns.count hw
  have cls : W.Looks (model prog w) hp (classData C) cd := W.looks_clsIn X hcd
  refine W.osa_openX (od := some oD) SF X ⟨hx, rfl, rfl, hoD⟩ ho (no_taker ha) fun b => ?_
  show wpAny _ _ (storeInOwnDict (.ref x) (.ref C) (.str name tk) name v b) _ _ _
  obtain ⟨nm, bs, mro, ns, qn, hd, sn, sb, ab, col, del⟩ := cd
  obtain rfl : hd = true := hh
  unfold storeInOwnDict ownDictForStores
  repeat first
    | with_reducible refine PySem.OEX.store_in_old hns hw hz ?_
    | with_reducible refine wpAny_loadPart_at hx ?_
    | with_reducible refine cls.at ?_
    | wp_step
  intro h' tk' hn hs
  exact hq h' tk' (fun b o hb q => (hs.2 b hb).trans q) hn
end
end PySem.YK

namespace K
open PySem PySem.Spec PyProof.Rows L2 Rp
/-- what the written part says of an own error's class -/
structure OexG (K : PySem.W.Frag) (C : Addr) : Prop where
  cls : ∃ nm q N bs bm sn sub ab col dd k0 k1 k2 k3 k5 newId, K.lookup C = some (excClassObj nm q C N bs bm true sn sub ab col dd k0 k1 k2 k3 k5 newId) ∧ PySem.YK.MkF newId bm ∧
    ∃ B bmB, StoreFacts B bmB "object.__setattr__" "object" ∧ PySem.W.excTail bmB bm = true
  sa : PySem.W.findIn K (.ref C) "__setattr__" = some (some (.builtin "object.__setattr__"))
  exC : PySem.W.subIn K (.ref C) (.type "BaseException") = some true
  tyC : PySem.W.typeIn K (.ref C) = some (.type "type")
  kC : PySem.W.keepIn K (.ref C) = true
/-- what its stores ask -/
theorem OexG.sto {K : PySem.W.Frag} {C : Addr} (T : OexG K C) : ∃ B bmB cd, StoreFacts B bmB "object.__setattr__" "object" ∧ PySem.W.excOver K C bmB = true ∧ PySem.W.clsIn K C = some cd ∧ cd.hasDict = true := by
  obtain ⟨nm, q, N, bs, bm, sn, sub, ab, col, dd, k0, k1, k2, k3, k5, newId, hC, _, B, bmB, SF, et⟩ := T.cls
  have hcl : PySem.W.clsIn K C = some { name := nm, bases := bs, mro := .ref C :: bm, ns := N, qualname := q, hasDict := true, slotNames := sn, subclasses := sub, abstract := ab, collection := col, hasDel := false } := by
    unfold PySem.W.clsIn
    rw [hC]
  refine ⟨B, bmB, _, SF, ?_, hcl, rfl⟩
  unfold PySem.W.excOver
  rw [hcl]
  show (C == C && PySem.W.excTail bmB bm) = true
  rw [et, beq_self_eq_true]
  rfl
section
variable {X : Cx} {pins : List (Addr × Obj)} {σ : L2.St} {H : Hp} {s : Shared} {a C dx : Addr} {f : Str} {y : V} {u : Value} {fs : List (Str × V)} {Q : Unit → Shared → Prop} {E : Value → Shared → Prop} {A : Around}
/-- self.f = y, the first one -/
theorem ost_newG (T : OexG X.K C) (I : Inv X pins σ H s) (e : H a = some (exo a C none)) (hno : PySem.W.findIn X.K (.ref C) f = some none) (ry : RelV y u)
    (h : ∀ dx s', H dx = none → dx ≠ a → Inv X pins σ (upd (upd H dx (exd dx [(f, y)])) a (exo a C (some dx))) s' → Q () s') : wpAny (model X.prog X.w) A (setAttr (.ref a) f u) Q E s := by
  obtain ⟨B, bmB, cd, SF, ho, hcl, hh⟩ := T.sto
  obtain ⟨t1, ht⟩ := exo_at I.hok e
  obtain ⟨hp, g, d, t, os⟩ := s
  have I1 : PySem.W.InstAt hp a { cls := .ref C, dict := none, data := .fields #[.ref t1, .none, .none, .none, .bool false, .none] } C none := ⟨ht, rfl, rfl, trivial⟩
  refine PySem.W.set_plain I.kIn I1 T.sa (PySem.YK.sto_new SF I.kIn ht ho hcl hh hno fun h' tk' dx k dn dne hx hn => ?_)
  have nDx : H dx = none := I.hok.fresh dn
  have n1 : ∀ {b : Addr} {o : Obj}, hp.get? b = some o → b ≠ dx := fun {b o} z => Nat.ne_of_lt (Nat.lt_of_lt_of_le (Heap.lt_size z) dn)
  have n2 : ∀ {b : Addr}, H b = none → b ≠ a := fun {b} z w => by
    rw [w, e] at z
    cases z
  have un : Un X.fs [] H (upd (upd H dx (exd dx [(f, y)])) a (exo a C (some dx))) hp h' := by
    refine ⟨fun b o q n _ _ => k b o (n2 n) q, fun b o q n _ _ => ⟨o.slots, k b o (n2 n) q⟩, fun b o q n _ => ?_, fun b o q _ => ?_, fun b xs q => ?_, fun b o v q => ?_, fun b ps q => ⟨#[], ?_⟩⟩
    · rw [upd_ne (n2 n), upd_ne (n1 q)]
      exact n
    · by_cases hb : b = a
      · rw [hb]
        exact ⟨_, hx⟩
      · exact ⟨o, k b o hb q⟩
    · rw [upd_ne (at_ne e q exo_tup), upd_ne (ne_of_none q nDx)]
      exact q
    · rw [upd_ne (at_ne e q exo_frz), upd_ne (ne_of_none q nDx)]
      exact q
    · rw [upd_ne (at_ne e q exo_tbl), upd_ne (ne_of_none q nDx), q]
      simp
  refine h dx _ nDx dne (I.un (t' := tk') un fun b o q => ?_)
  by_cases hb : b = a
  · subst hb
    rw [upd_same] at q
    cases q
    exact exo_ok hx
  rw [upd_ne hb] at q
  by_cases hd : b = dx
  · subst hd
    rw [upd_same] at q
    cases q
    exact exd_ok hn (relO_put (fs := []) ry fun g => True.intro)
  rw [upd_ne hd] at q
  refine (I.hok b o q).stay (fun c v hc z => k c v ?_ z) (fun c hc => ?_) (fun c xs hc => ?_)
  · rcases hc with hc | hc
    · rw [hc]
      exact hb
    · exact at_ne e hc exo_own
  · rw [upd_ne (at_ne e hc exo_own), upd_ne (ne_of_none hc nDx)]
    exact hc
  · rw [upd_ne (at_ne e hc exo_tup), upd_ne (ne_of_none hc nDx)]
    exact hc
/-- self.f = y, a further one -/
theorem ost_oldG (T : OexG X.K C) (I : Inv X pins σ H s) (e : H a = some (exo a C (some dx))) (ed : H dx = some (exd dx fs)) (hl : fs.length ≤ 900) (hno : PySem.W.findIn X.K (.ref C) f = some none) (ry : RelV y u)
    (h : ∀ s', Inv X pins σ (upd H dx (exd dx ((f, y) :: fs))) s' → Q () s') : wpAny (model X.prog X.w) A (setAttr (.ref a) f u) Q E s := by
  obtain ⟨B, bmB, cd, SF, ho, hcl, hh⟩ := T.sto
  obtain ⟨t1, ht⟩ := exo_at I.hok e
  obtain ⟨mA, hns, rel⟩ := exd_at I.hok ed
  have hw := within_of rel
  obtain ⟨hp, g, d, t, os⟩ := s
  obtain ⟨oD, _, _, hoD, _, _⟩ := hns.count hw
  have I1 : PySem.W.InstAt hp a { cls := .ref C, dict := some dx, data := .fields #[.ref t1, .none, .none, .none, .bool false, .none] } C (some oD) := ⟨ht, rfl, rfl, hoD⟩
  refine PySem.W.set_plain I.kIn I1 T.sa (PySem.YK.sto_old SF I.kIn ht hns hw (by rw [List.length_map]; omega) ho hcl hh hno fun h' tk' k hn => ?_)
  have hd : ∃ o, h'.get? dx = some o := by
    obtain ⟨o, _, _, z, _⟩ := hn
    exact ⟨o, z⟩
  exact h _ (I.write (t' := tk') (x := dx) (e := dx) (o := exd dx ((f, y) :: fs)) (by rw [ed]; exact True.intro) (.inl rfl) k hd (exd_ok hn (relO_put ry rel)))
end
/-- self.f = e -/
def tOstG (K : PySem.W.Frag) (f : Str) (to te : TE) : TS := fun D σ H => te σ H fun y H1 => to σ H1 fun x H2 => ∃ a C : Addr, x = .ref a ∧ OexG K C ∧ PySem.W.findIn K (.ref C) f = some none ∧
  ((H2 a = some (exo a C none) ∧ ∀ dx, H2 dx = none → dx ≠ a → D.nx σ (upd (upd H2 dx (exd dx [(f, y)])) a (exo a C (some dx)))) ∨
    ∃ (dx : Addr) (fs : List (Str × V)), H2 a = some (exo a C (some dx)) ∧ H2 dx = some (exd dx fs) ∧ fs.length ≤ 900 ∧ D.nx σ (upd H2 dx (exd dx ((f, y) :: fs))))
section
variable {X : Cx} {o e : Expr} {es : List Expr} {to te : TE} {ta : TA} {f : Str} {p p' p1 p2 pos : Pos}
theorem ps_ostG (ho : PE X o to) (he : PE X e te) (hs : swapsWith e (some (.Attribute o f p')) pos.line X.env = pure false := by rfl) : PS X (.Assign [.Attribute o f p'] e pos) (tOstG X.K f to te) := by
  refine ⟨fun pins s σ H D I h => ?_⟩
  refine plainObj_wpAny_Assign_Attribute (thn (he.run pins s σ H _ I h) fun v s1 ⟨y, H1, I1, r1, q1⟩ => thn (ho.run pins s1 σ H1 _ I1 q1) fun u s2 z => ?_) hs
  obtain ⟨x, H2, I2, r2, a, C, ex, T, hno, q⟩ := z
  subst ex
  obtain rfl : u = Value.ref a := r2
  rcases q with ⟨ea, q⟩ | ⟨dx, fs, ea, ed, hl, q⟩
  · exact ost_newG T I2 ea hno r1 fun dx s' n ne J => ⟨σ, _, J, q dx n ne⟩
  · exact ost_oldG T I2 ea ed hl hno r1 fun s' J => ⟨σ, _, J, q⟩
theorem pmk_oexG {CX : CXT} {x : Str} {C fI : Addr} {k : Nat} {fd : FuncData} {ps : List Str} {sp : Sp} {ds : List Value} {dvs : List V} (T : OexG X.K C) (iC : PySem.W.findIn X.K (.ref C) "__init__" = some (some (.ref fI))) (tI : PySem.W.typeIn X.K (.ref fI) = some (.type "function"))
    (F1 : FnOk X.prog X.w X.K X.mg X.base CX k fI fd ps sp) (hr : Room (k + 1) X.A) (hb : Binds X.K fd ps ds) (hd : Vals dvs ds) (hx : Passes CX X (fun _ _ _ => False)) (hg : Gl X x) (hm : X.mg x = some (.ref C)) (ha : PA X (e :: es) ta)
    (hdb : (x == ("__debug__" : Str)) = false := by decide) (he : starEach (e :: es) X.env = (false, eval e X.env) :: starEach es X.env := by rfl) (hpl : (backTo pos (starEach es X.env)).any (·.1) = false := by rfl) :
    PMk X (.Call (.Name x p) (e :: es) [] pos) (tMkO C sp dvs ta) := by
  intro pins s σ H Q I h
  obtain ⟨nm, q, N, bs, bm, sn, sub, ab, col, dd, k0, k1, k2, k3, k5, newId, hC, mk, _⟩ := T.cls
  refine wpAny_Call_Name_kw (ld_glob I hg hm ?_ hdb)
  refine PySem.W.callWith_K (h₀ := X.base) I.ok.mod.kin T.kC (thn (ha.run pos pins s σ H _ I h) fun us s1 z => ?_) he hpl
  obtain ⟨vs, H1, I1, r1, hz, q1⟩ := z
  refine ⟨I1.kIn, ?_⟩
  show wpAny _ _ (call (.ref C) us) _ _ _
  obtain ⟨hp, g, dr, tk, os⟩ := s1
  let HP := (hp.push (PySem.W.kdv_tup us)).push (PySem.HandSPX.excO C hp.objs.size)
  have le1 : hp.objs.size ≤ hp.objs.size + 1 := Nat.le_succ _
  have hn : H1 (hp.objs.size + 1) = none := I1.hok.fresh le1
  have hq := q1 (hp.objs.size + 1) hn
  have kk : ∀ b o, hp.get? b = some o → HP.get? b = some o := fun b o e => Heap.get?_push_of_some _ (Heap.get?_push_of_some _ e)
  have at_ : HP.get? (hp.objs.size + 1) = some (PySem.HandSPX.excO C hp.objs.size) := by
    show ((hp.push (PySem.W.kdv_tup us)).push (PySem.HandSPX.excO C hp.objs.size)).get? _ = _
    heap_get
  have I2 : Inv X pins σ (upd H1 (hp.objs.size + 1) (exo (hp.objs.size + 1) C none)) ⟨HP, g, dr, tk, os⟩ := I1.laid (t' := tk) (a := hp.objs.size + 1) (o := exo (hp.objs.size + 1) C none) (h' := HP) kk le1 (exo_ok at_)
  have r2 : Vals (V.ref (hp.objs.size + 1) :: (vs ++ dvs)) (Value.ref (hp.objs.size + 1) :: (us ++ ds)) := .cons rfl (r1.append hd)
  have hl : (Value.ref (hp.objs.size + 1) :: us ++ ds).length = ps.length := (r2.length).symm.trans (F1.len _ _ _ _ hq)
  have hus : us.length ≤ sizeLine := by
    have := Paired.length r1
    rw [sizeLine_eq]
    omega
  have run := F1.run _ X.stack _ _ ⟨Value.ref (hp.objs.size + 1) :: us, []⟩ (Value.ref (hp.objs.size + 1) :: (us ++ ds)) _ _ (fun _ _ _ => False) (hr.make C us []) (I2.env0.make C us []) (hb _ (Value.ref (hp.objs.size + 1) :: us) I2.kIn hl) r2 hq
  refine wpAny_call (PySem.YK.do_call mk (I1.kIn _ _ hC) (PySem.W.looks_findIn I1.kIn iC) (fun self => PySem.W.bind_fn I1.kIn self tI) hus (codeAny_mono run fun r s' hq' => ?_))
  cases r with
  | error er => exact hx pins σ _ _ er s' I2 hq'
  | ok fl =>
    cases fl with
    | next => exact False.elim hq'
    | brk => exact False.elim hq'
    | cont => exact False.elim hq'
    | ret u =>
      obtain ⟨v, H2, os2, bare2, un2, hok2, rv, ev, d, fs, ea, ed, hd1, q2⟩ := hq'
      subst ev
      obtain ⟨h2, g2, d2, t2, os'⟩ := s'
      exact ⟨rv, mk_end (raises_own T.exC T.tyC) I1 le1 kk un2 hok2 os2 bare2 ea ed hd1 q2⟩
end
end K
namespace K
open PySem L2 Rp
variable [TabT]
/-! ### defs over data that may raise -/
/-- an error of an own class: its class, its fields -/
abbrev XDf := Addr → List (Str × D) → Prop
abbrev XDs := Addr → List (Str × D) → Den → Prop
def ExD (K : PySem.W.Frag) (H : Hp) (M : Mk_) (d : Option Addr) (fs : List (Str × D)) : Prop := ∃ e ws, d = some e ∧ H e = some (.xd ws) ∧ DnF K H M fs ws
def spDX (K : PySem.W.Frag) (c : Nat) (π : List D → (D → Prop) → XDf → Prop) : Sp := fun vs H Q E => ∃ (M : Mk_) (ds : List D) (Qd : D → Prop) (Xd : XDf), M.n + c ≤ LIM ∧ Wd H M ∧ DnL K H M ds vs ∧ π ds Qd Xd ∧
  (∀ d v H' M', Wd H' M' → XE c H M H' M' → Dn K H' M' d v → Qd d → Q v H') ∧ ∀ S fs d H' M', Wd H' M' → XE c H M H' M' → ExD K H' M' d fs → Xd S fs → E (.ref S) d H'
section
variable {K : PySem.W.Frag} {W : WX} {κ1 κ2 κ3 : Nat}
structure GX (K : PySem.W.Frag) (W : WX) (r : Nat) (H0 : Hp) (M0 : Mk_) (H : Hp) (M : Mk_) (Xd : XDs) : Prop where
  ex : ∀ S fs d σ' δ' H' M', RS K r H0 M0 H' M' σ' δ' → XT H M H' M' → ExD K H' M' d fs → Xd S fs δ' → W (.ref S) d σ' H'
structure SX (K : PySem.W.Frag) (W : WX) (c : Nat) (t : TS) (τ : XDs → TDS) : Prop where
  run : ∀ r H0 M0 H M σ δ (D : Ends) (DD : DEnds) (Xd : XDs), RS K (c + r) H0 M0 H M σ δ → τ Xd DD δ → Goes K r H0 M0 H M D DD → GX K W r H0 M0 H M Xd → t D σ H
theorem GX.le {r r' : Nat} {H0 H : Hp} {M0 M : Mk_} {Xd : XDs} (g : GX K W r H0 M0 H M Xd) (l : r ≤ r') : GX K W r' H0 M0 H M Xd := ⟨fun S fs d σ' δ' H' M' rs x e q => g.ex S fs d σ' δ' H' M' (rs.le l) x e q⟩
theorem GX.xt {r : Nat} {H0 H H1 : Hp} {M0 M M1 : Mk_} {Xd : XDs} (g : GX K W r H0 M0 H M Xd) (x : XT H M H1 M1) : GX K W r H0 M0 H1 M1 Xd := ⟨fun S fs d σ' δ' H' M' rs y e q => g.ex S fs d σ' δ' H' M' rs (x.trans y) e q⟩
theorem sx_of {t : TS} {τ : TDS} (h : SS K κ1 t τ) : SX K W κ1 t (fun _ => τ) := ⟨fun r H0 M0 H M σ δ D DD Xd rs q g x => h.run r H0 M0 H M σ δ D DD rs q g⟩
theorem sx_seq {t u : TS} {a b : XDs → TDS} (ha : SX K W κ1 t a) (hb : SX K W κ2 u b) : SX K W (κ1 + κ2) (tSeq t u) (fun Xd => dsSeq (a Xd) (b Xd)) := ⟨fun ρ0 H0 M0 H M σ δ D DD Xd r q g x =>
  ha.run (κ2 + ρ0) H0 M0 H M σ δ _ _ Xd (r.le (by omega)) q ⟨fun σ' δ' H' M' r' y q' => hb.run ρ0 H0 M0 H' M' σ' δ' D DD Xd r' q' (g.xt y) (x.xt y), (g.le (Nat.le_add_left _ _)).rt, (g.le (Nat.le_add_left _ _)).bk, (g.le (Nat.le_add_left _ _)).ct⟩ (x.le (Nat.le_add_left _ _))⟩
theorem sx_if {tc : TT} {c : TDT} {t u : TS} {a b : XDs → TDS} (hc : ST K κ1 tc c) (ha : SX K W κ2 t a) (hb : SX K W κ3 u b) : SX K W (κ1 + κ2 + κ3) (tIfS tc t u) (fun Xd => dsIf c (a Xd) (b Xd)) := ⟨fun ρ0 H0 M0 H M σ δ D DD Xd r q g x => hc.run H0 M0 H M σ δ _ _ (r.le (by omega)) q fun c H1 M1 w1 e1 z => by
  cases c with
  | true => exact iteT (ha.run ρ0 H0 M0 H1 M1 σ δ D DD Xd (r.xl w1 e1 (by omega)) (z.1 rfl) (g.xt e1.toXT) (x.xt e1.toXT))
  | false => exact iteF (hb.run ρ0 H0 M0 H1 M1 σ δ D DD Xd (r.xl w1 e1 (by omega)) (z.2 rfl) (g.xt e1.toXT) (x.xt e1.toXT))⟩
/-- the run of a body -/
theorem run_bodyX {N : List Str} {H : Hp} {M : Mk_} {ds : List D} {vs : List V} {t : TS} {τ : XDs → TDS} {c c' : Nat} {Q : VK} {E : XK} {Qd : D → Prop} {Xd : XDf} (wd : Wd H M) (l : M.n + c ≤ LIM) (n : DnL K H M ds vs) (h : SX K (fun cls d _ H => E cls d H) c' t τ) (hc : c' ≤ c) (p : τ (fun S fs _ => Xd S fs) { nx := fun _ => Qd .non, rt := Qd } (dstart N.length ds))
    (q : ∀ d v H' M', Wd H' M' → XE c H M H' M' → Dn K H' M' d v → Qd d → Q v H') (qx : ∀ S fs d H' M', Wd H' M' → XE c H M H' M' → ExD K H' M' d fs → Xd S fs → E (.ref S) d H') : t { nx := fun _ H' => Q .non H', rt := Q } (L2.start N vs) H :=
  h.run 0 H (M.up c) H M _ _ _ _ _ ((rs_start wd l n).le hc) p ⟨fun σ' δ' H' M' r x z => q .non .non H' M' r.wd (up_xe r.base r.cr) rfl z, fun d v H' M' w' e m n z => q d v H' M' w' (up_xe e m) n z, fun _ _ _ _ _ _ z => z.elim, fun _ _ _ _ _ _ z => z.elim⟩
    ⟨fun S fs d σ' δ' H' M' r x e z => qx S fs d H' M' r.wd (up_xe r.base r.cr) e z⟩
/-- its __init__ -/
def spXI (S : Addr) (m : Str) : Sp := fun vs H Q _ => ∃ (a : Addr) (v : V), vs = [.ref a, v] ∧ H a = some (exo a S none) ∧ ∀ dx, H dx = none → dx ≠ a → Q .non (upd (upd H dx (exd dx [(m, v)])) a (exo a S (some dx)))
/-- raise C(x): the error's one field is x -/
theorem sx_raise1 {S : Addr} {m : Str} {t : TA} {r : TDA} (h : SA K κ1 t r) :
    SX K W κ1 (fun _ σ H => tMkO S (spXI S m) [] t σ H fun cls d H' => W cls d σ H') (fun Xd DD δ => r δ fun xs => ∃ d, xs = [.d d] ∧ Xd S [(m, d)] δ) := ⟨fun ρ0 H0 M0 H M σ δ D DD Xd rs q g x => h.run H0 M0 H M σ δ _ _ (rs.le (by omega)) q fun xs vs H1 M1 w1 e1 n z => by
  obtain ⟨d, rfl, z⟩ := z
  obtain ⟨v, rfl, n1⟩ := dx1 n
  refine ⟨(by show 1 ≤ 1000; decide), fun a ha => ⟨a, v, rfl, upd_same, fun e he hne => ?_⟩⟩
  have he1 : H1 e = none := by rw [← upd_ne (H := H1) (o := exo a S none) hne]; exact he
  refine ⟨rfl, e, _, upd_same, by rw [upd_ne hne]; exact upd_same, he1, ?_⟩
  have sm : Same H1 (upd (del (upd (upd (upd H1 a (exo a S none)) e (exd e [(m, v)])) a (exo a S (some e))) a) e (.xd [(m, v)])) := fun y o hy => by
    have y1 := ne_of_none hy ha
    have y2 := ne_of_none hy he1
    rw [upd_ne y2, del_ne y1, upd_ne y1, upd_ne y2, upd_ne y1]
    exact hy
  obtain ⟨w2, e2⟩ := same_xe w1 sm
  exact x.ex S [(m, d)] (some e) σ δ _ M1 (rs.xl w2 (e1.trans e2) (by omega)) (e1.trans e2).toXT ⟨e, _, rfl, upd_same, v, [], rfl, Dn.xt w1 e2.toXT _ _ n1, rfl⟩ z⟩
end
section
variable {K : PySem.W.Frag} {W : WX} {κ1 κ2 κ3 : Nat}
/-- an expression that may raise -/
structure SEX (K : PySem.W.Frag) (W : WX) (c : Nat) (t : TE) (τ : XDs → TDE) : Prop where
  run : ∀ r H0 M0 H M σ δ (Q : VK) (Qd : DX → Prop) (Xd : XDs), RS K (c + r) H0 M0 H M σ δ → τ Xd δ Qd → (∀ x v H' M', Wd H' M' → XE c H M H' M' → Dx K H0 H' M' x v → Qd x → Q v H') → GX K W r H0 M0 H M Xd → t σ H Q
def dMethX (C : Addr) (m : Str) (π : List D → (D → Prop) → XDf → Prop) (τ : TDE) (r : TDA) : XDs → TDE := fun Xd δ Q => τ δ fun x => ∃ fs, x = .d (.ins C fs) ∧ fs.lookup m = none ∧ r δ fun xs => match allD xs with
  | some ds => π (.ins C fs :: ds) (fun d => Q (.d d)) fun S fs => Xd S fs δ
  | none => False
theorem sex_meth {C : Addr} {m : Str} {π : List D → (D → Prop) → XDf → Prop} {ta : TE} {τ : TDE} {t : TA} {r : TDA} {c : Nat} (ha : SE K κ1 ta τ) (h : SA K κ2 t r) : SEX K W (κ1 + κ2 + c) (tMethE C m (spDX K c π) (WE W) ta t) (dMethX C m π τ r) := ⟨fun ρ0 H0 M0 H M σ δ Q Qd Xd s q k gx => ha.run H0 M0 H M σ δ _ _ (s.le (by omega)) q fun x v H1 M1 w1 e1 n1 z => by
  obtain ⟨fs, rfl, nl, z⟩ := z
  obtain ⟨a, dx, ws, rfl, hA, nf⟩ := id n1
  refine ⟨a, dx, ws, rfl, hA, nf.nolook nl, h.run H0 M0 H1 M1 σ δ _ _ (s.xl w1 e1 (by omega)) z fun xs vs H2 M2 w2 e2 n2 y => ?_⟩
  cases e : allD xs with
  | none => simp only [e] at y
  | some ds =>
    simp only [e] at y
    refine ⟨M2, .ins C fs :: ds, _, _, ?_, w2, ⟨_, _, rfl, n1.xe w1 e2, allD_is n2 e⟩, y, fun d v H' M' w' e' n' q' => k (.d d) v H' M' w' ((e1.trans e2).trans e') n' q', fun S fs d H' M' w' e' ex q' => ?_⟩
    · have := (s.xl (c' := c + ρ0) w2 (e1.trans e2) (by omega)).cr
      have := s.lim
      omega
    · exact gx.ex S fs d σ δ H' M' (s.xl w' ((e1.trans e2).trans e') (by omega)) ((e1.trans e2).trans e').toXT ex q'⟩
theorem sx_retX {t : TE} {τ : XDs → TDE} (h : SEX K W κ1 t τ) : SX K W κ1 (tRet t) (fun Xd => dsRet (τ Xd)) := ⟨fun ρ0 H0 M0 H M σ δ D DD Xd r q g gx => h.run ρ0 H0 M0 H M σ δ _ _ Xd r q (fun x v H' M' w' e n z => by
  cases x with
  | d d => exact g.rt d v H' M' w' (r.base.trans e.toXB) (by have := r.cr; have := e.kn; omega) n z
  | b ds =>
    obtain ⟨a, vs, rfl, m, n0, l, k⟩ := n
    exact g.rt (.lst ds) _ H' (M'.put a none) (frz_wd w') (frz_xb (r.base.trans e.toXB) r.w0 m n0) (by have := r.cr; have := e.kn; show M'.n + ρ0 ≤ _; omega) ⟨a, vs, rfl, l, put_same, DnL.xt w' (frz_xt m) _ _ k⟩ z) gx⟩
theorem sx_asgX {t : TE} {τ : XDs → TDE} {g : TG} {γ : DX → Den → (Den → Prop) → Prop} {is : List Nat} (h : SEX K W κ1 t τ) (hg : SG K g γ is) : SX K W κ1 (tAsg t g) (fun Xd => dsAsg (τ Xd) γ) := ⟨fun ρ0 H0 M0 H M σ δ D DD Xd r q k gx => h.run ρ0 H0 M0 H M σ δ _ _ Xd r q (fun x v H' M' w' e n z =>
  hg.run ρ0 H0 M0 H' M' σ δ x v _ _ (r.xl w' e (by omega)) n z fun σ' δ' r' _ q' => k.nx _ _ _ _ r' e.toXT q') gx⟩
/-- try: .. except C: .., where nothing else is let out -/
theorem ss_try_only {c : Value} {ts : Addr → Value → Option Addr → TS} {tb : WX → TS} {τb : XDs → TDS} {τh : TDS} (hb : ∀ W, SX K W κ1 (tb W) τb) (hh : ∀ a cls d, SS K κ2 (ts a cls d) τh) :
    SS K (κ1 + κ2) (fun D σ H => tb (L2.wOnly K c ts (fun _ _ _ _ => False) D) D σ H) (fun DD δ => τb (fun S _ δ' => PySem.W.exmOne K (.ref S) c = some true ∧ τh DD δ') DD δ) := ⟨fun ρ0 H0 M0 H M σ δ D DD r q g =>
  (hb _).run (κ2 + ρ0) H0 M0 H M σ δ D DD _ (r.le (by omega)) q (g.le (Nat.le_add_left _ _)) ⟨fun S fs d σ' δ' H' M' r' x _ z => ⟨true, z.1, fun _ a _ => (hh a _ d).run ρ0 H0 M0 H' M' σ' δ' D DD r' z.2 (g.xt x), fun z => nomatch z⟩⟩⟩
end
section
variable {P : Program} {w : World} {K : PySem.W.Frag} {mg : Str → Option Value} {base : Heap}
/-- THE RULE for a def over data that may raise -/
theorem okDX {x qual : Str} {st : Stmt} {f : Addr} {fd : FuncData} {N ps : List Str} {k c : Nat} {π : List D → (D → Prop) → XDf → Prop} (F : Fun K x qual st f fd) (S : FnScope N ps (defScope st)) (len : ∀ ds Q Xd, π ds Q Xd → ds.length = ps.length)
    (hbody : ∀ (cdv : Value) (A : Around) (outer : List Env) (s : Shared) (H : Hp) (E : XK), Room k (A.deeper (PyProof.Rows.envOfC qual (defScope st) s.heap.objs.size f cdv)) →
      ∃ t τ c', PSs (cxOf (L2.CX P w) P w K mg base N qual (defScope st) f cdv A outer s H E) (defBody st) t ∧ SX K (fun cls d _ H => E cls d H) c' t τ ∧ c' ≤ c ∧ ∀ ds Q Xd, π ds Q Xd → τ (fun S fs _ => Xd S fs) { nx := fun _ => Q .non, rt := Q } (dstart N.length ds)) : FnOk P w K mg base (L2.CX P w) (k + 1) f fd ps (spDX K c π) := by
  refine F.okX S (fun vs H Q E h => ?_) (fun cdv A outer s H vs Q E hr h => ?_)
  · obtain ⟨M, ds, Qd, Xd, _, _, n, p, _⟩ := h
    rw [n.len]
    exact len _ _ _ p
  · obtain ⟨M, ds, Qd, Xd, l, wd, n, p, q, qx⟩ := h
    obtain ⟨t, τ, c', h1, h2, hc, h3⟩ := hbody cdv A outer s H E hr
    exact ⟨t, h1, run_bodyX wd l n h2 hc (h3 ds Qd Xd p) q qx⟩
/-- what the top holds of an error's class with one field -/
structure XT1x (K : PySem.W.Frag) (mg : Str → Option Value) (n m : Str) (S fU : Addr) : Prop where
  g : mg n = some (.ref S)
  x : OexC K S
  i : PySem.W.findIn K (.ref S) "__init__" = some (some (.ref fU))
  t : PySem.W.typeIn K (.ref fU) = some (.type "function")
  n : PySem.W.findIn K (.ref S) m = some none
end
end K
namespace K
open PySem PySem.Spec PyProof.Rows L2 Rp
/-! ### within an except suite -/
section
variable {X : Cx} {CX : CXT} {k : Nat} {f C : Addr} {fd : FuncData} {ps : List Str} {sp : SpE} {E : XK} {x : Str} {p pos : Pos} {e : Expr} {es : List Expr} {t : TA} {a : Addr} {oe : Obj} {cls : Value} {d : Option Addr} {ds : List Value} {dvs : List V}
theorem run_makeE {pins : List (Addr × Obj)} {σ : L2.St} {H : Hp} {s : Shared} {Q : VK} {us : List Value} {vs : List V} (M : Mk X.K C f) (F : FnE X.prog X.w X.K X.mg X.base CX k f fd ps sp) (hr : L2H.RoomH (k + 1) X.A) (hp : (a, oe) ∈ X.pn) (hz : Zc cls d oe) (hf : ∃ vs, oe.data = .fields vs)
    (hb : Binds X.K fd ps ds) (hd : Vals dvs ds) (hx : Passes CX X E) (I : Inv X pins σ H s) (r : Vals vs us)
    (h : ∀ x dx, H x = none → H dx = none → dx ≠ x → sp a cls d (.ref x :: (vs ++ dvs)) (upd (upd H dx (.own x)) x (.ins C dx [])) (fun v H2 => v = .non ∧ Q (.ref x) H2) E) :
    wpAny (model X.prog X.w) X.A (call (.ref C) us) (EP X pins σ Q) X.xe s := by
  have hq := h (s.heap.objs.size + 1) s.heap.objs.size (I.hok.fresh (Nat.le_succ _)) (I.hok.fresh (Nat.le_refl _)) (Nat.ne_of_lt (Nat.lt_succ_self _))
  have I2 := Inv.made (C := C) I
  have r2 : Vals (V.ref (s.heap.objs.size + 1) :: (vs ++ dvs)) (Value.ref (s.heap.objs.size + 1) :: (us ++ ds)) := .cons rfl (r.append hd)
  have hl : (Value.ref (s.heap.objs.size + 1) :: us ++ ds).length = ps.length := by
    have e := r2.length
    rw [F.len _ _ _ _ _ _ _ hq] at e
    exact e.symm
  have P1 := I2.pin (a, oe) (List.mem_append_left _ hp)
  have hpin : L2H.PinOk X.stack _ _ (a, oe) := ⟨P1.1, P1.2.1, fun hm => (List.mem_cons.mp (I2.stkSub a hm)).elim P1.2.2.1 P1.2.2.2.1, P1.2.2.2.2⟩
  refine wpAny_call (make_map (f := f) I.kIn M.makes M.init (beq_iff_eq.mp M.fn) (codeAny_mono (F.run _ X.stack _ _ ⟨Value.ref (s.heap.objs.size + 1) :: us, []⟩ (Value.ref (s.heap.objs.size + 1) :: (us ++ ds)) _ _ E (a, oe) cls d (hr.make C us []) hpin hz hf
    (I2.env0.make C us []) (hb _ (Value.ref (s.heap.objs.size + 1) :: us) I2.kIn hl) r2 hq) fun r s' hq' => ?_))
  cases r with
  | error e => exact hx pins σ _ _ e s' I2 hq'
  | ok fl =>
    cases fl with
    | ret u =>
      obtain ⟨v, H', I3, rv, ev, q3⟩ := I2.after hq'
      subst ev
      exact ⟨rv, ⟨V.ref (s.heap.objs.size + 1), H', I3, rfl, q3⟩⟩
    | next => exact False.elim hq'
    | brk => exact False.elim hq'
    | cont => exact False.elim hq'
theorem pe_makeE (M : Mk X.K C f) (F : FnE X.prog X.w X.K X.mg X.base CX k f fd ps sp) (hr : L2H.RoomH (k + 1) X.A) (hp : (a, oe) ∈ X.pn) (hz : Zc cls d oe) (hf : ∃ vs, oe.data = .fields vs) (hg : Gl X x) (hm : X.mg x = some (.ref C)) (hb : Binds X.K fd ps ds) (hd : Vals dvs ds) (hx : Passes CX X E)
    (ha : PA X (e :: es) t) (hdb : (x == ("__debug__" : Str)) = false := by decide) (he : starEach (e :: es) X.env = (false, eval e X.env) :: starEach es X.env := by rfl) (hpl : (backTo pos (starEach es X.env)).any (·.1) = false := by rfl) :
    PE X (.Call (.Name x p) (e :: es) [] pos) (tMake C (sp a cls d) dvs E t) := by
  refine ⟨fun pins s σ H Q I h => ?_⟩
  refine wpAny_Call_Name_kw (ld_glob I hg hm ?_ hdb)
  refine PySem.W.callWith_K (h₀ := X.base) I.ok.mod.kin M.kp (thn (ha.run pos pins s σ H _ I h) fun us s1 ⟨vs, H1, I1, r, q⟩ => ⟨I1.kIn, ?_⟩) he hpl
  exact run_makeE M F hr hp hz hf hb hd hx I1 r q
end
section
variable {P : Program} {w : World} {K : PySem.W.Frag} {mg : Str → Option Value} {base : Heap} {CX : CXT} {k : Nat} {f : Addr} {fd : FuncData} {ps : List Str} {sp : SpE}
theorem FunD_okE {x qual : Str} {params : Arguments} {body : List Stmt} {scope : Scope} {dvs : List V} {kws : List (Str × V)} {N : List Str} (F : FunD K x qual params body scope dvs kws f fd) (S : FnScope N ps scope) (len : ∀ a cls d vs H Q E, sp a cls d vs H Q E → vs.length = ps.length)
    (hbody : ∀ (cdv : Value) (A : Around) (outer : List Env) (s : Shared) (H : Hp) (vs : List V) (Q : VK) (E : XK) (p : Addr × Obj) (cls : Value) (d : Option Addr), Zc cls d p.2 → (∃ vs, p.2.data = .fields vs) →
      L2H.RoomH k (A.deeper (envOfC qual scope s.heap.objs.size f cdv)) → sp p.1 cls d vs H Q E →
      ∃ t, PSs (L2H.cxH CX P w K mg base N qual scope f cdv A outer s H E p) body t ∧ t { nx := fun _ H' => Q .non H', rt := Q } (start N vs) H) : FnE P w K mg base CX (k + 1) f fd ps sp := by
  obtain ⟨oc, od, dV, kV, doc, pm, an, cdv, ct, osl, rfl, lk, hcd, _, _⟩ := F.ex
  exact fn_ofE lk hcd S len fun A outer s H vs Q E p cls d hz hf hr hsp => hbody cdv A outer s H vs Q E p cls d hz hf hr hsp
end
end K
namespace K
open PySem PySem.Spec PyProof.Rows L2 Rp
/-! ### o.m(k = v, ..) -/
def tMethKE (C : Addr) (m : Str) (sp : Sp) (gV : List V → List V → List V) (E : L2.St → XK) (ta : TE) (tk : TA) : TE := fun σ H Q => ta σ H fun x H1 => ∃ a dx fs, x = .ref a ∧ H1 a = some (.ins C dx fs) ∧ fs.lookup m = none ∧ tk σ H1 fun zs H2 => sp (gV [x] zs) H2 Q (E σ)
section
variable {X : Cx} {CX : CXT} {k : Nat} {C f : Addr} {fd : FuncData} {ps ks : List Str} {m : Str} {sp : Sp} {E : L2.St → XK} {o : Expr} {kws : List Keyword} {ta : TE} {tk : TA} {apos pos : Pos} {g : List Value → List Value → List Value} {gV : List V → List V → List V}
theorem pe_methKE {pl : Sem Bool} (he : PE X o ta) (c : Cls X.K C) (hm : Meth X.K C m f) (F : FnOk X.prog X.w X.K X.mg X.base CX k f fd ps sp) (hr : Room k X.A) (hb : KBinds X.K fd ps ks g gV) (hx : ∀ σ, PassesAt CX X σ (E σ)) (hkw : PK X kws tk)
    (hall : (backToKw pos (keywordEach kws X.env)).all (·.1.isSome) = true := by rfl) (hks : (backToKw pos (keywordEach kws X.env)).filterMap (·.1) = ks := by rfl)
    (hpl : ((backTo pos (starEach [] X.env)).any (·.1) || (backToKw pos (keywordEach kws X.env)).any (·.1.isNone)) = false := by rfl)
    (ht : eval (.Call (.Attribute o m apos) [] kws pos) X.env = (do
      let ov ← eval o X.env
      standAt apos.atName
      let (f, first) ← holding [ov] (getMethod ov m pl)
      callWith pos f first (backTo pos (starEach [] X.env)) (backToKw pos (keywordEach kws X.env))) := by rfl) :
    PE X (.Call (.Attribute o m apos) [] kws pos) (tMethKE C m sp gV E ta tk) := by
  refine ⟨fun pins s σ H Q I h => ?_⟩
  refine PySem.W.methodCall_KW (pl := pl) (thn (he.run pins s σ H _ I h) fun u s1 ⟨x, H1, I1, rx, a, dx, fs, ex, ea, l, q⟩ => ?_) ht
  subst ex
  obtain rfl : u = Value.ref a := rx
  refine getmeth_ok I1 ea c hm l ?_
  refine PySem.W.callWith_KW0 (first := [.ref a]) (h₀ := X.base) I.ok.mod.kin hm.kp hall (thn (hkw.run pos pins s1 σ H1 _ I1 q) fun ws s2 ⟨zs, H2, I2, rz, q2⟩ => ⟨I2.kIn, ?_⟩) hpl
  rw [hks]
  show wpAny _ _ (call (.ref f) [.ref a] (ks.zip ws)) _ _ _
  have r2 := hb.rel (vs := [.ref a]) (us := [Value.ref a]) (.cons rfl .nil) rz
  have hl : (g [Value.ref a] ws).length = ps.length := by rw [← r2.length]; exact F.len _ _ _ _ q2
  refine wpAny_call (codeAny_mono (F.run X.A X.stack s2 H2 ⟨[.ref a], ks.zip ws⟩ (g [.ref a] ws) (gV [.ref a] zs) Q (E σ) hr I2.env0 (hb.to s2 [.ref a] ws I2.kIn hl) r2 q2) fun r s' hq => ?_)
  cases r with
  | error e => exact hx σ pins H2 s2 e s' I2 hq
  | ok fl =>
    cases fl with
    | ret u => exact I2.after hq
    | next => exact False.elim hq
    | brk => exact False.elim hq
    | cont => exact False.elim hq
end
variable [TabT]
section
variable {K : PySem.W.Frag} {W : WX} {κ1 κ2 κ3 : Nat}
/-- the parameters stand as the method's own, then the keywords -/
abbrev gId (α : Type) : List α → List α → List α := fun us ws => match us with
  | [x] => x :: ws
  | _ => []
theorem sex_methK {C : Addr} {m : Str} {π : List D → (D → Prop) → XDf → Prop} {ta : TE} {τ : TDE} {t : TA} {r : TDA} {c : Nat} (ha : SE K κ1 ta τ) (h : SA K κ2 t r) : SEX K W (κ1 + κ2 + c) (tMethKE C m (spDX K c π) (gId V) (WE W) ta t) (dMethX C m π τ r) := sex_meth (m := m) ha h
theorem se_methK {C : Addr} {m : Str} {π : List D → (D → Prop) → Prop} {E : XK} {ta : TE} {τ : TDE} {t : TA} {r : TDA} {c : Nat} (ha : SE K κ1 ta τ) (h : SA K κ2 t r) : SE K (κ1 + κ2 + c) (tMethKE C m (spD K c π) (gId V) (fun _ => E) ta t) (dMeth C m π [] τ r) := by
  have e : tMethKE C m (spD K c π) (gId V) (fun _ => E) ta t = tMeth C m (spD K c π) [] E ta t := by
    funext σ H Q
    unfold tMethKE tMeth
    simp only [List.append_nil]
  rw [e]
  exact se_methN ha h
/-- try: .. except C as e: .., where nothing else is let out -/
theorem ss_try_as {c : Value} {i : Nat} {ts : Addr → Value → Option Addr → TS} {tb : WX → TS} {τb : XDs → TDS} {τh : Addr → List (Str × D) → TDS} (hb : ∀ W, SX K W κ1 (tb W) τb)
    (hh : ∀ r H0 M0 H M σ δ (D : Ends) (DD : DEnds) S fs dd a, RS K (κ2 + r) H0 M0 H M σ δ → ExD K H M dd fs → H a = none → τh S fs DD δ → Goes K r H0 M0 H M D DD →
      ts a (.ref S) dd { nx := fun σ' H' => D.nx (σ'.set i none) H', rt := D.rt, bk := fun σ' H' => D.bk (σ'.set i none) H', ct := fun σ' H' => D.ct (σ'.set i none) H' } (σ.set i (some (.ref a))) H) :
    SS K (κ1 + κ2) (fun D σ H => tb (wAs K c i ts (fun _ _ _ _ => False) D) D σ H) (fun DD δ => τb (fun S fs δ' => PySem.W.exmOne K (.ref S) c = some true ∧ τh S fs DD δ') DD δ) := ⟨fun ρ0 H0 M0 H M σ δ D DD r q g =>
  (hb _).run (κ2 + ρ0) H0 M0 H M σ δ D DD _ (r.le (by omega)) q (g.le (Nat.le_add_left _ _)) ⟨fun S fs d σ' δ' H' M' r' x ex z => ⟨true, z.1, fun _ a ha => hh ρ0 H0 M0 H' M' σ' δ' D DD S fs d a r' ex ha z.2 (g.xt x), fun z => nomatch z⟩⟩⟩
end
end K
namespace K
open PySem L2 Rp
variable [TabT]
/-! ### the suite of except C as e, over data: e stands in its slot, its dict is told -/
theorem ExD.xt {K : PySem.W.Frag} {H H' : Hp} {M M' : Mk_} {d : Option Addr} {fs : List (Str × D)} (h : ExD K H M d fs) (w : Wd H M) (x : XT H M H' M') : ExD K H' M' d fs := by
  obtain ⟨e, ws, ed, he, n⟩ := h
  have m : M e = none := w.imm he fun _ z => nomatch z
  exact ⟨e, ws, ed, (x.k0 _ _ he m fun _ z => nomatch z).1, DnF.xt w x _ _ n⟩
section
variable (K : PySem.W.Frag) (d : Option Addr) (fs : List (Str × D))
structure ZE (c : Nat) (t : TE) (τ : TDE) : Prop where
  run : ∀ H0 M0 H M σ δ (Q : VK) (Qd : DX → Prop), RS K c H0 M0 H M σ δ → ExD K H M d fs → τ δ Qd → (∀ x v H' M', Wd H' M' → XE c H M H' M' → Dx K H0 H' M' x v → Qd x → Q v H') → t σ H Q
structure ZA (c : Nat) (t : TA) (τ : TDA) : Prop where
  run : ∀ H0 M0 H M σ δ (Q : List V → Hp → Prop) (Qd : List DX → Prop), RS K c H0 M0 H M σ δ → ExD K H M d fs → τ δ Qd → (∀ xs vs H' M', Wd H' M' → XE c H M H' M' → DxL K H0 H' M' xs vs → Qd xs → Q vs H') → t σ H Q
structure ZT (c : Nat) (t : TT) (τ : TDT) : Prop where
  run : ∀ H0 M0 H M σ δ (Q : Bool → Hp → Prop) (Qd : Bool → Prop), RS K c H0 M0 H M σ δ → ExD K H M d fs → τ δ Qd → (∀ b H' M', Wd H' M' → XE c H M H' M' → Qd b → Q b H') → t σ H Q
structure ZS (c : Nat) (t : TS) (τ : TDS) : Prop where
  run : ∀ r H0 M0 H M σ δ (D : Ends) (DD : DEnds), RS K (c + r) H0 M0 H M σ δ → ExD K H M d fs → τ DD δ → Goes K r H0 M0 H M D DD → t D σ H
end
section
variable {K : PySem.W.Frag} {d : Option Addr} {fs : List (Str × D)} {κ1 κ2 κ3 : Nat}
theorem ze_of {t : TE} {τ : TDE} (h : SE K κ1 t τ) : ZE K d fs κ1 t τ := ⟨fun H0 M0 H M σ δ Q Qd r _ q k => h.run H0 M0 H M σ δ Q Qd r q k⟩
theorem zt_of {t : TT} {τ : TDT} (h : ST K κ1 t τ) : ZT K d fs κ1 t τ := ⟨fun H0 M0 H M σ δ Q Qd r _ q k => h.run H0 M0 H M σ δ Q Qd r q k⟩
theorem zs_of {t : TS} {τ : TDS} (h : SS K κ1 t τ) : ZS K d fs κ1 t τ := ⟨fun r H0 M0 H M σ δ D DD rs _ q g => h.run r H0 M0 H M σ δ D DD rs q g⟩
/-- e.f -/
theorem ze_xf {a S S' : Addr} {f : Str} {t : TE} {τ : TDE} (h : ZE K d fs κ1 t τ) : ZE K d fs κ1 (tXf a (.ref S') d S f t) (fun δ Q => τ δ fun x => x = .d (.raw (.ref a)) ∧ S' = S ∧ ∃ y, fs.lookup f = some y ∧ Q (.d y)) := ⟨fun H0 M0 H M σ δ Q Qd r ex q k => h.run H0 M0 H M σ δ _ _ r ex q fun x v H1 M1 w1 e1 n z => by
  obtain ⟨rfl, rfl, y, lk, z⟩ := z
  obtain ⟨e, ws, rfl, he, nf⟩ := ex.xt r.wd e1.toXT
  obtain ⟨u, lu, nu⟩ := nf.look lk
  exact ⟨n, rfl, e, ws, u, rfl, he, lu, k (.d y) u H1 M1 w1 e1 nu z⟩⟩
theorem za_nil : ZA K d fs 0 tNil dNil := ⟨fun H0 M0 H M σ δ Q Qd r _ q k => k [] [] H M r.wd .refl rfl q⟩
theorem za_cons {te : TE} {t : TA} {a : TDE} {r : TDA} (ha : ZE K d fs κ1 te a) (hr : ZA K d fs κ2 t r) : ZA K d fs (κ1 + κ2) (tCons te t) (dCons a r) := ⟨fun H0 M0 H M σ δ Q Qd s ex q k =>
  ha.run H0 M0 H M σ δ _ _ s.l ex q fun x v H1 M1 w1 e1 n1 h1 => hr.run H0 M0 H1 M1 σ δ _ _ (s.xe w1 e1) (ex.xt s.wd e1.toXT) h1 fun xs vs H2 M2 w2 e2 n2 h2 =>
    k (x :: xs) (v :: vs) H2 M2 w2 (e1.trans e2) ⟨v, vs, rfl, n1.xe w1 e2, n2⟩ h2⟩
theorem za_of {t : TA} {r : TDA} (h : SA K κ1 t r) : ZA K d fs κ1 t r := ⟨fun H0 M0 H M σ δ Q Qd s _ q k => h.run H0 M0 H M σ δ Q Qd s q k⟩
theorem ze_tup {t : TA} {r : TDA} (h : ZA K d fs κ1 t r) : ZE K d fs κ1 (tTup t) (dTup r) := ⟨fun H0 M0 H M σ δ Q Qd s ex q k => h.run H0 M0 H M σ δ _ _ s ex q fun xs vs H1 M1 w1 e1 n1 z => by
  cases e : allD xs with
  | none => simp only [e] at z
  | some ds =>
    simp only [e] at z
    have n := allD_is n1 e
    refine ⟨by rw [n.len]; exact z.1, fun p hp => k (.d (.tup ds)) _ _ M1 (new_wd hp w1) (e1.trans (new_xe hp w1)) ⟨p, vs, rfl, upd_same, DnL.xt w1 (new_xe hp w1).toXT _ _ n⟩ z.2⟩⟩
/-- a list that is new, told as data -/
theorem ze_lst {t : TA} {r : TDA} (h : ZA K d fs κ1 t r) : ZE K d fs κ1 (tLst t) (dFz (dAll r)) := ⟨fun H0 M0 H M σ δ Q Qd s ex q k => h.run H0 M0 H M σ δ _ _ s ex q fun xs vs H1 M1 w1 e1 n1 z => by
  cases e : allD xs with
  | none => simp only [e] at z
  | some ds =>
    simp only [e] at z
    have n := allD_is n1 e
    refine ⟨by rw [n.len]; exact z.1, fun p hp => ?_⟩
    have w2 := own_wd (xs := vs) hp w1
    have e2 : XE κ1 H M (upd H1 p (.lst vs)) (M1.put p (some false)) := e1.trans (own_xe false hp w1)
    exact k (.d (.lst ds)) _ _ _ (frz_wd w2) (frz_xe e2 s.wd put_same (e1.free s.wd w1 hp)) ⟨p, vs, rfl, upd_same, put_same, DnL.xt w2 (frz_xt put_same) _ _ (DnL.xt w1 (own_xe false hp w1).toXT _ _ n)⟩ z.2⟩
theorem ze_fld {K' : PySem.W.Frag} {t : TE} {τ : TDE} {f : Str} (h : ZE K d fs κ1 t τ) : ZE K d fs κ1 (tFld K' t f) (dFld K' τ f) := ⟨fun H0 M0 H M σ δ Q Qd s ex q k => h.run H0 M0 H M σ δ _ _ s ex q fun x v H1 M1 w1 e1 n1 z => by
  cases x with
  | b _ => exact z.elim
  | d x =>
    cases x <;> try exact z.elim
    obtain ⟨c, na, y, lk, z⟩ := z
    obtain ⟨a, dx, ws, rfl, ha, hf⟩ := n1
    obtain ⟨v, lv, nv⟩ := hf.look lk
    exact ⟨a, _, dx, ws, v, rfl, ha, c, na, lv, k (.d y) v H1 M1 w1 e1 nv z⟩⟩
theorem exd_has {H : Hp} {M : Mk_} (h : ExD K H M d fs) : HasD H d := by
  obtain ⟨e, ws, ed, he, _⟩ := h
  exact .inr ⟨e, ws, ed, he⟩
/-- isinstance(e, C) -/
theorem ze_isX {a S : Addr} {t : TA} {r : TDA} (h : ZA K d fs κ1 t r) : ZE K d fs κ1 (tCB (rIsX K a (.ref S) d) t) (fun δ Q => r δ fun xs => ∃ c cv b, xs = [.d (.raw (.ref a)), .d (.raw c)] ∧ ExcC K S ∧ ClsV c cv ∧ PySem.W.kitOne K (.ref S) cv = some b ∧ Q (.d (.bl b))) := ⟨fun H0 M0 H M σ δ Q Qd s ex q k => h.run H0 M0 H M σ δ _ _ s ex q fun xs vs H1 M1 w1 e1 n1 z => by
  obtain ⟨c, cv, b, rfl, E, cl, hk, z⟩ := z
  obtain ⟨v, u, rfl, n2, n3⟩ := dx2 n1
  have n2 : v = .ref a := n2
  have n3 : u = c := n3
  subst n2 n3
  exact ⟨S, _, cv, b, rfl, rfl, E, cl, exd_has (ex.xt s.wd e1.toXT), hk, k (.d (.bl b)) _ H1 M1 w1 e1 rfl z⟩⟩
theorem raws {H : Hp} {M : Mk_} : ∀ {cs vs : List V}, DnL K H M (cs.map D.raw) vs → vs = cs
  | [], _, h => h
  | c :: cs, _, ⟨u, us, e, h, k⟩ => by
    have h : u = c := h
    rw [e, h, raws k]
/-- isinstance(e, (C1, C2, ..)) -/
theorem ze_isXT {a S : Addr} {t : TA} {r : TDA} (h : ZA K d fs κ1 t r) : ZE K d fs κ1 (tCB (rIsXT K a (.ref S) d) t) (fun δ Q => r δ fun xs => ∃ cs us b, xs = [.d (.raw (.ref a)), .d (.tup (cs.map D.raw))] ∧ ExcC K S ∧ Paired ClsV cs us ∧ PySem.W.kitAny K (.ref S) us = some b ∧ Q (.d (.bl b))) := ⟨fun H0 M0 H M σ δ Q Qd s ex q k => h.run H0 M0 H M σ δ _ _ s ex q fun xs vs H1 M1 w1 e1 n1 z => by
  obtain ⟨cs, us, b, rfl, E, cl, hk, z⟩ := z
  obtain ⟨v, u, rfl, n2, n3⟩ := dx2 n1
  have n2 : v = .ref a := n2
  subst n2
  obtain ⟨p, ws, rfl, hp, nl⟩ := n3
  rw [raws nl] at hp
  exact ⟨S, p, cs, us, b, rfl, rfl, E, hp, cl, exd_has (ex.xt s.wd e1.toXT), hk, k (.d (.bl b)) _ H1 M1 w1 e1 rfl z⟩⟩
theorem zt_b {t : TE} {τ : TDE} (h : ZE K d fs κ1 t τ) : ZT K d fs κ1 (tB t) (dB τ) := ⟨fun H0 M0 H M σ δ Q Qd r ex q k => h.run H0 M0 H M σ δ _ _ r ex q fun x v H' M' w e n z => by
  cases x with
  | b _ => exact z.elim
  | d x => cases x <;> first | exact z.elim | exact ⟨_, n, k _ H' M' w e z⟩⟩
theorem zt_not {t : TT} {τ : TDT} (h : ZT K d fs κ1 t τ) : ZT K d fs κ1 (tNot t) (dNot τ) := ⟨fun H0 M0 H M σ δ Q Qd r ex q k => h.run H0 M0 H M σ δ _ _ r ex q fun b H' M' w e z => k _ H' M' w e z⟩
theorem zt_or {t u : TT} {a b : TDT} (ha : ZT K d fs κ1 t a) (hb : ZT K d fs κ2 u b) : ZT K d fs (κ1 + κ2) (tOr t u) (dOr a b) := ⟨fun H0 M0 H M σ δ Q Qd r ex q k => ha.run H0 M0 H M σ δ _ _ r.l ex q fun c H1 M1 w1 e1 z => by
  cases c with
  | false => exact iteF (hb.run H0 M0 H1 M1 σ δ _ _ (r.xe w1 e1) (ex.xt r.wd e1.toXT) (z.2 rfl) fun b H2 M2 w2 e2 y => k b H2 M2 w2 (e1.trans e2) y)
  | true => exact iteT (k _ H1 M1 w1 (e1.mono (by omega)) (z.1 rfl))⟩
theorem zs_seq {t u : TS} {a b : TDS} (ha : ZS K d fs κ1 t a) (hb : ZS K d fs κ2 u b) : ZS K d fs (κ1 + κ2) (tSeq t u) (dsSeq a b) := ⟨fun ρ0 H0 M0 H M σ δ D DD r ex q g =>
  ha.run (κ2 + ρ0) H0 M0 H M σ δ _ _ (r.le (by omega)) ex q ⟨fun σ' δ' H' M' r' x q' => hb.run ρ0 H0 M0 H' M' σ' δ' D DD r' (ex.xt r.wd x) q' (g.xt x), (g.le (Nat.le_add_left _ _)).rt, (g.le (Nat.le_add_left _ _)).bk, (g.le (Nat.le_add_left _ _)).ct⟩⟩
theorem zs_if {tc : TT} {c : TDT} {t u : TS} {a b : TDS} (hc : ZT K d fs κ1 tc c) (ha : ZS K d fs κ2 t a) (hb : ZS K d fs κ3 u b) : ZS K d fs (κ1 + κ2 + κ3) (tIfS tc t u) (dsIf c a b) := ⟨fun ρ0 H0 M0 H M σ δ D DD r ex q g => hc.run H0 M0 H M σ δ _ _ (r.le (by omega)) ex q fun c H1 M1 w1 e1 z => by
  cases c with
  | true => exact iteT (ha.run ρ0 H0 M0 H1 M1 σ δ D DD (r.xl w1 e1 (by omega)) (ex.xt r.wd e1.toXT) (z.1 rfl) (g.xt e1.toXT))
  | false => exact iteF (hb.run ρ0 H0 M0 H1 M1 σ δ D DD (r.xl w1 e1 (by omega)) (ex.xt r.wd e1.toXT) (z.2 rfl) (g.xt e1.toXT))⟩
theorem zs_asg {t : TE} {τ : TDE} {g : TG} {γ : DX → Den → (Den → Prop) → Prop} {is : List Nat} (h : ZE K d fs κ1 t τ) (hg : SG K g γ is) : ZS K d fs κ1 (tAsg t g) (dsAsg τ γ) := ⟨fun ρ0 H0 M0 H M σ δ D DD r ex q k => h.run H0 M0 H M σ δ _ _ (r.le (by omega)) ex q fun x v H' M' w' e n z =>
  hg.run ρ0 H0 M0 H' M' σ δ x v _ _ (r.xl w' e (by omega)) n z fun σ' δ' r' _ q' => k.nx _ _ _ _ r' e.toXT q'⟩
theorem zs_set {t : TE} {τ : TDE} (i : Nat) (h : ZE K d fs κ1 t τ) : ZS K d fs κ1 (tAsg t (gName i)) (dsAsg τ (γName i)) := zs_asg h (sg_name i)
theorem zs_ret {t : TE} {τ : TDE} (h : ZE K d fs κ1 t τ) : ZS K d fs κ1 (tRet t) (dsRet τ) := ⟨fun ρ0 H0 M0 H M σ δ D DD r ex q g => h.run H0 M0 H M σ δ _ _ (r.le (by omega)) ex q fun x v H' M' w' e n z => by
  cases x with
  | d d => exact g.rt d v H' M' w' (r.base.trans e.toXB) (by have := r.cr; have := e.kn; omega) n z
  | b ds =>
    obtain ⟨a, vs, rfl, m, n0, l, k⟩ := n
    exact g.rt (.lst ds) _ H' (M'.put a none) (frz_wd w') (frz_xb (r.base.trans e.toXB) r.w0 m n0) (by have := r.cr; have := e.kn; show M'.n + ρ0 ≤ _; omega) ⟨a, vs, rfl, l, put_same, DnL.xt w' (frz_xt m) _ _ k⟩ z⟩
omit [TabT] in
theorem isX_K {X : Cx} {a : Addr} {oe : Obj} {cls : Value} {d : Option Addr} (hK : X.K = K) (hp : (a, oe) ∈ X.pn) (hz : Zc cls d oe) (hf : ∃ vs, oe.data = .fields vs) : CallR X (.builtin "isinstance") (rIsX K a cls d) := by
  subst hK
  exact call_isX hp hz hf
omit [TabT] in
theorem isXT_K {X : Cx} {a : Addr} {oe : Obj} {cls : Value} {d : Option Addr} (hK : X.K = K) (hp : (a, oe) ∈ X.pn) (hz : Zc cls d oe) (hf : ∃ vs, oe.data = .fields vs) : CallR X (.builtin "isinstance") (rIsXT K a cls d) := by
  subst hK
  exact call_isXT hp hz hf
/-- what stands due behind the suite: the name is unbound -/
def unE (i : Nat) (DD : DEnds) : DEnds := { nx := fun δ => DD.nx (δ.set i .un), rt := DD.rt, bk := fun δ => DD.bk (δ.set i .un), ct := fun δ => DD.ct (δ.set i .un) }
/-- try: .. except C as e: .., nothing else let out, the suite over data -/
theorem ss_try_asZ {c : Value} {i : Nat} {ts : Addr → Value → Option Addr → TS} {tb : WX → TS} {τb : XDs → TDS} {τh : Addr → Addr → List (Str × D) → TDS} (hb : ∀ W, SX K W κ1 (tb W) τb)
    (hh : ∀ a S dd fs, ZS K dd fs κ2 (ts a (.ref S) dd) (τh a S fs)) :
    SS K (κ1 + κ2) (fun D σ H => tb (wAs K c i ts (fun _ _ _ _ => False) D) D σ H) (fun DD δ => τb (fun S fs δ' => PySem.W.exmOne K (.ref S) c = some true ∧ ∀ a, τh a S fs (unE i DD) (δ'.set i (.dat (.raw (.ref a))))) DD δ) :=
  ss_try_as (τh := fun S fs DD δ' => ∀ a, τh a S fs (unE i DD) (δ'.set i (.dat (.raw (.ref a))))) hb fun r H0 M0 H M σ δ D DD S fs dd a rs ex na q g =>
    (hh a S dd fs).run r H0 M0 H M _ _ _ _ (rs.set (d := .raw (.ref a)) rfl i) ex (q a) ⟨fun σ' δ' H' M' r' x z => g.nx _ _ H' M' (r'.un i) x z, g.rt, fun σ' δ' H' M' r' x z => g.bk _ _ H' M' (r'.un i) x z, fun σ' δ' H' M' r' x z => g.ct _ _ H' M' (r'.un i) x z⟩
end
omit [TabT] in
theorem ix_tupK {X : Cx} {Kf : PySem.W.Frag} (h : X.K = Kf) : IxR X (rIxT Kf) := by
  subst h
  exact ix_tup
/-- what the top holds of an error's class with one field, its base any -/
structure XT1g (K : PySem.W.Frag) (mg : Str → Option Value) (n m : Str) (S fU : Addr) : Prop where
  g : mg n = some (.ref S)
  x : OexG K S
  i : PySem.W.findIn K (.ref S) "__init__" = some (some (.ref fU))
  t : PySem.W.typeIn K (.ref fU) = some (.type "function")
  n : PySem.W.findIn K (.ref S) m = some none
end K
namespace K
open PySem L2 Rp
variable [TabT]
section
variable {K : PySem.W.Frag} {W : WX} {κ1 κ2 κ3 : Nat}
/-- o.m(..), both o and the call may raise -/
theorem sex_methO {C : Addr} {m : Str} {π : List D → (D → Prop) → XDf → Prop} {ta : TE} {τ : XDs → TDE} {t : TA} {r : TDA} {c : Nat} (ha : SEX K W κ1 ta τ) (h : SA K κ2 t r) : SEX K W (κ1 + κ2 + c) (tMethE C m (spDX K c π) (WE W) ta t) (fun Xd => dMethX C m π (τ Xd) r Xd) := ⟨fun ρ0 H0 M0 H M σ δ Q Qd Xd s q k gx => ha.run (κ2 + c + ρ0) H0 M0 H M σ δ _ _ Xd (s.le (by omega)) q (fun x v H1 M1 w1 e1 n1 z => by
  obtain ⟨fs, rfl, nl, z⟩ := z
  obtain ⟨a, dx, ws, rfl, hA, nf⟩ := id n1
  refine ⟨a, dx, ws, rfl, hA, nf.nolook nl, h.run H0 M0 H1 M1 σ δ _ _ (s.xl w1 e1 (by omega)) z fun xs vs H2 M2 w2 e2 n2 y => ?_⟩
  cases e : allD xs with
  | none => simp only [e] at y
  | some ds =>
    simp only [e] at y
    refine ⟨M2, .ins C fs :: ds, _, _, ?_, w2, ⟨_, _, rfl, n1.xe w1 e2, allD_is n2 e⟩, y, fun d v H' M' w' e' n' q' => k (.d d) v H' M' w' ((e1.trans e2).trans e') n' q', fun S fs d H' M' w' e' ex q' => ?_⟩
    · have := (s.xl (c' := c + ρ0) w2 (e1.trans e2) (by omega)).cr
      have := s.lim
      omega
    · exact gx.ex S fs d σ δ H' M' (s.xl w' ((e1.trans e2).trans e') (by omega)) ((e1.trans e2).trans e').toXT ex q') (gx.le (Nat.le_add_left _ _))⟩
/-- the clauses of a try, over data -/
structure NZ (K : PySem.W.Frag) (c : Nat) (f : Ends → WX) (τ : Addr → List (Str × D) → TDS) : Prop where
  run : ∀ r H0 M0 H M σ δ (D : Ends) (DD : DEnds) S fs dd, RS K (c + r) H0 M0 H M σ δ → ExD K H M dd fs → τ S fs DD δ → Goes K r H0 M0 H M D DD → f D (.ref S) dd σ H
theorem nz_none : NZ K 0 (fun _ _ _ _ _ => False) (fun _ _ _ _ => False) := ⟨fun _ _ _ _ _ _ _ _ _ _ _ _ _ _ z _ => z⟩
theorem nz_more {c : Value} {i : Nat} {ts : Addr → Value → Option Addr → TS} {f : Ends → WX} {τh : Addr → Addr → List (Str × D) → TDS} {τ : Addr → List (Str × D) → TDS} (hh : ∀ a S dd fs, ZS K dd fs κ1 (ts a (.ref S) dd) (τh a S fs)) (h : NZ K κ2 f τ) :
    NZ K (κ1 + κ2) (fun D => wAs K c i ts (f D) D) (fun S fs DD δ => ∃ b, PySem.W.exmOne K (.ref S) c = some b ∧ (b = true → ∀ a, τh a S fs (unE i DD) (δ.set i (.dat (.raw (.ref a))))) ∧ (b = false → τ S fs DD δ)) := ⟨fun r H0 M0 H M σ δ D DD S fs dd rs ex z g => by
  obtain ⟨b, hb, z1, z2⟩ := z
  refine ⟨b, hb, fun e a na => ?_, fun e => h.run r H0 M0 H M σ δ D DD S fs dd (rs.le (by omega)) ex (z2 e) g⟩
  exact (hh a S dd fs).run r H0 M0 H M _ _ _ _ ((rs.le (c' := κ1 + r) (by omega)).set (d := .raw (.ref a)) rfl i) ex (z1 e a) ⟨fun σ' δ' H' M' r' x z => g.nx _ _ H' M' (r'.un i) x z, g.rt, fun σ' δ' H' M' r' x z => g.bk _ _ H' M' (r'.un i) x z, fun σ' δ' H' M' r' x z => g.ct _ _ H' M' (r'.un i) x z⟩⟩
/-- try: .. except C as e: .. except C' as e': .., nothing else let out -/
theorem ss_try_named {f : Ends → WX} {tb : WX → TS} {τb : XDs → TDS} {τn : Addr → List (Str × D) → TDS} (hb : ∀ W, SX K W κ1 (tb W) τb) (hn : NZ K κ2 f τn) :
    SS K (κ1 + κ2) (fun D σ H => tb (f D) D σ H) (fun DD δ => τb (fun S fs δ' => τn S fs DD δ') DD δ) := ⟨fun ρ0 H0 M0 H M σ δ D DD r q g =>
  (hb _).run (κ2 + ρ0) H0 M0 H M σ δ D DD _ (r.le (by omega)) q (g.le (Nat.le_add_left _ _)) ⟨fun S fs d σ' δ' H' M' r' x ex z => hn.run ρ0 H0 M0 H' M' σ' δ' D DD S fs d r' ex z (g.xt x)⟩⟩
end
end K
namespace K
open PySem PySem.Spec PyProof.Rows L2 Rp
variable [TabT]
/-- o.m(b = .., a = ..) -/
abbrev gSw (α : Type) : List α → List α → List α := fun us ws => match us, ws with
  | [x], [a, b] => [x, b, a]
  | _, _ => []
section
variable {K : PySem.W.Frag} {W : WX} {κ1 κ2 : Nat}
theorem sex_methK2 {C : Addr} {m : Str} {π : List D → (D → Prop) → XDf → Prop} {ta : TE} {τ : TDE} {t : TA} {r : TDA} {c : Nat} (ha : SE K κ1 ta τ) (h : SA K κ2 t r) : SEX K W (κ1 + κ2 + c) (tMethKE C m (spDX K c π) (gSw V) (WE W) ta t)
    (fun Xd δ Q => τ δ fun x => ∃ fs, x = .d (.ins C fs) ∧ fs.lookup m = none ∧ r δ fun xs => ∃ a b, xs = [.d a, .d b] ∧ π [.ins C fs, b, a] (fun d => Q (.d d)) fun S fs => Xd S fs δ) := ⟨fun ρ0 H0 M0 H M σ δ Q Qd Xd s q k gx => ha.run H0 M0 H M σ δ _ _ (s.le (by omega)) q fun x v H1 M1 w1 e1 n1 z => by
  obtain ⟨fs, rfl, nl, z⟩ := z
  obtain ⟨a, dx, ws, rfl, hA, nf⟩ := id n1
  refine ⟨a, dx, ws, rfl, hA, nf.nolook nl, h.run H0 M0 H1 M1 σ δ _ _ (s.xl w1 e1 (by omega)) z fun xs vs H2 M2 w2 e2 n2 y => ?_⟩
  obtain ⟨p, q', rfl, y⟩ := y
  obtain ⟨u1, u2, rfl, n3, n4⟩ := dx2 n2
  refine ⟨M2, [.ins C fs, q', p], _, _, ?_, w2, ⟨_, _, rfl, n1.xe w1 e2, _, _, rfl, n4, _, _, rfl, n3, rfl⟩, y, fun d v H' M' w' e' n' q' => k (.d d) v H' M' w' ((e1.trans e2).trans e') n' q', fun S fs d H' M' w' e' ex q' => ?_⟩
  · have := (s.xl (c' := c + ρ0) w2 (e1.trans e2) (by omega)).cr
    have := s.lim
    omega
  · exact gx.ex S fs d σ δ H' M' (s.xl w' ((e1.trans e2).trans e') (by omega)) ((e1.trans e2).trans e').toXT ex q'⟩
end
omit [TabT] in
theorem pe_fldK {X : Cx} {Kf : PySem.W.Frag} {e : Expr} {ta : TE} {f : Str} {pos : Pos} (hK : X.K = Kf) (he : PE X e ta) (hb : attributeBase e f X.env (eval e X.env) = eval e X.env) : PE X (.Attribute e f pos) (tFld Kf ta f) := by
  subst hK
  exact pe_fld he hb
end K
namespace K
open PySem L2 Rp
variable [TabT]
section
variable {K : PySem.W.Frag} {κ1 κ2 : Nat}
/-- return [e for x in it], e pops -/
theorem ss_retLc2 {i v : Nat} {wi : TI} {ω : TDF} {te : TE} {τ : TD2} (hi : SI K κ1 wi ω) (he : S2 K κ2 i te τ) (iv : i ≠ v) : SS K (κ1 + sizeLine * κ2) (tRet (tLc wi (gName v) tYes te [v])) (fun DD δ => dLc2 ω τ i v δ fun acc ds => DD.rt (.lst acc)) := ⟨fun ρ0 H0 M0 H M σ δ D DD r q k => by
  refine lc2_run (Q := fun x H1 => D.rt x H1) hi he iv r q fun acc a us ds H1 M1 r1 x1 m1 n1 l1 nl z => ?_
  have w1 := r1.wd
  exact k.rt (.lst acc) _ H1 (M1.put a none) (frz_wd w1) (frz_xb r1.base r1.w0 m1 (r.old n1)) (by have := r1.cr; show M1.n + ρ0 ≤ _; omega) ⟨a, us, rfl, l1, put_same, DnL.xt w1 (frz_xt m1) _ _ nl⟩ z⟩
end
end K
namespace K
open PySem L2 Rp
variable [TabT]
/-! ### dict(pairs), d.get(k, x) over data -/
def keyD : Key → D
  | .inl i => .int i
  | .inr s => .str s
def valD (kvs : List (Key × D)) (k : Key) : Option D := (kvs.find? fun p => decide (p.1 = k)).map (·.2)
section
variable {K : PySem.W.Frag}
theorem keyD_dn {H : Hp} {M : Mk_} {k : Key} {v : V} (h : Dn K H M (keyD k) v) : v = kV k := by
  cases k with
  | inl i => exact h
  | inr s => exact h
theorem valD_pos {p : Key × D} {r : List (Key × D)} {k : Key} (e : p.1 = k) : valD (p :: r) k = some p.2 := by simp [valD, List.find?_cons, e]
theorem valD_neg {p : Key × D} {r : List (Key × D)} {k : Key} (e : ¬ p.1 = k) : valD (p :: r) k = valD r k := by simp [valD, List.find?_cons, e]
theorem DnK.val {H : Hp} {M : Mk_} : ∀ {kvs : List (Key × D)} {ws : List (Key × V)}, DnK K H M kvs ws → ∀ k, (valD kvs k = none ∧ valV ws k = none) ∨ ∃ d v, valD kvs k = some d ∧ valV ws k = some v ∧ Dn K H M d v
  | [], _, h, k => by
    have h : _ = _ := h
    subst h
    exact .inl ⟨rfl, rfl⟩
  | (x, d) :: kvs, _, ⟨u, us, e, h, r⟩, k => by
    subst e
    by_cases z : x = k
    · exact .inr ⟨d, u, valD_pos (p := (x, d)) z, valV_pos (p := (x, u)) z, h⟩
    · rcases DnK.val r k with ⟨a, b⟩ | ⟨d', v', a, b, c⟩
      · exact .inl ⟨by rw [valD_neg (p := (x, d)) z]; exact a, by rw [valV_neg (p := (x, u)) z]; exact b⟩
      · exact .inr ⟨d', v', by rw [valD_neg (p := (x, d)) z]; exact a, by rw [valV_neg (p := (x, u)) z]; exact b, c⟩
theorem valV_no {k : Key} : ∀ {kvs : List (Key × V)}, k ∉ kvs.map (·.1) → valV kvs k = none
  | [], _ => rfl
  | p :: r, h => by
    rw [valV_neg (p := p) fun z => h (by rw [List.map_cons, z]; exact List.mem_cons_self)]
    exact valV_no fun z => h (List.mem_cons_of_mem _ z)
theorem mergeK_all : ∀ (kvs acc : List (Key × V)), ((acc ++ kvs).map (·.1)).Nodup → mergeK acc kvs = acc ++ kvs
  | [], acc, _ => (List.append_nil acc).symm
  | p :: r, acc, h => by
    have hn : valV acc p.1 = none := valV_no fun z => by
      rw [List.map_append, List.map_cons] at h
      exact (List.nodup_append.mp h).2.2 _ z _ List.mem_cons_self rfl
    show mergeK (putK acc p.1 p.2) r = _
    rw [putK_new _ hn, mergeK_all r (acc ++ [(p.1, p.2)]) (by simpa using h)]
    simp
theorem pairs_dn {H : Hp} {M : Mk_} : ∀ {kvs : List (Key × D)} {vs : List V}, DnL K H M (kvs.map fun kv => D.tup [keyD kv.1, kv.2]) vs → ∃ (ps : List Addr) (ws : List (Key × V)), vs = ps.map V.ref ∧ Paired (fun p kv => SqT K H p [kV kv.1, kv.2]) ps ws ∧ DnK K H M kvs ws ∧ ws.map (·.1) = kvs.map (·.1)
  | [], _, h => ⟨[], [], h, .nil, rfl, rfl⟩
  | (x, d) :: kvs, _, ⟨u, us, e, ⟨a, vs, ea, ha, u1, _, e1, n1, u2, _, e2, n2, e3⟩, r⟩ => by
    obtain ⟨ps, ws, h1, h2, h3, h4⟩ := pairs_dn r
    subst e3 e2 e1 ea
    have n1 := keyD_dn n1
    subst n1
    exact ⟨a :: ps, (x, u2) :: ws, by rw [e, h1]; rfl, .cons (.inl (.of ha)) h2, ⟨u2, ws, rfl, n2, h3⟩, by rw [List.map_cons, List.map_cons, h4]⟩
def ρDict : List DX → (DX → Prop) → Prop := fun xs Q => ∃ (x : DX) (kvs : List (Key × D)), xs = [x] ∧ x.get = .lst (kvs.map fun kv => .tup [keyD kv.1, kv.2]) ∧ (kvs.map (·.1)).Nodup ∧ Q (.d (.dic kvs))
theorem sc_dict : SC K (fun xs H Q => ∃ (a : Addr) (ps : List Addr) (kvs : List (Key × V)), xs = [.ref a] ∧ SqL K H a (ps.map V.ref) ∧ Paired (fun p kv => SqT K H p [kV kv.1, kv.2]) ps kvs ∧ ∀ p, H p = none → Q (.ref p) (upd H p (.dK (mergeK [] kvs)))) ρDict := ⟨fun H0 H M xs vs Q Qd w n h k => by
  obtain ⟨x, kvs, rfl, e, nd, q⟩ := h
  obtain ⟨v, rfl, n1⟩ := dx1 n
  obtain ⟨a, us, rfl, l, nl⟩ := lst_at n1 e
  obtain ⟨ps, ws, e1, pr, nk, ek⟩ := pairs_dn nl
  subst e1
  refine ⟨a, ps, ws, rfl, .inl (.of l), pr, fun p hp => ?_⟩
  rw [show mergeK [] ws = ws from mergeK_all ws [] (by rw [List.nil_append, ek]; exact nd)]
  exact k (.d (.dic kvs)) _ _ M (new_wd hp w) (new_xe hp w) ⟨p, ws, rfl, upd_same, DnK.xt w (new_xe hp w).toXT _ _ nk⟩ q⟩
def dDGet2 (d y z : TDE) : TDE := fun δ Q => d δ fun x => ∃ kvs, x = .d (.dic kvs) ∧ y δ fun y => ∃ k, y = .d (keyD k) ∧ z δ fun z => (∀ d, valD kvs k = some d → Q (.d d)) ∧ (valD kvs k = none → Q z)
theorem se_dget2 {td ty tz : TE} {d y z : TDE} (hd : SE K κ1 td d) (hy : SE K κ2 ty y) (hz : SE K κ3 tz z) : SE K (κ1 + κ2 + κ3) (tDGet2 td ty tz) (dDGet2 d y z) := ⟨fun H0 M0 H M σ δ Q Qd r q k => hd.run H0 M0 H M σ δ _ _ r.l.l q fun x v H1 M1 w1 e1 n1 z1 => by
  obtain ⟨kvs, rfl, z1⟩ := z1
  obtain ⟨a, ws, rfl, ha, nk⟩ := n1
  refine ⟨a, rfl, .inl ⟨ws, .inl ha⟩, hy.run H0 M0 H1 M1 σ δ _ _ (r.l.xe w1 e1) z1 fun y' v2 H2 M2 w2 e2 n2 z2 => ?_⟩
  obtain ⟨kk, rfl, z2⟩ := z2
  have n2 := keyD_dn n2
  subst n2
  refine hz.run H0 M0 H2 M2 σ δ _ _ (r.xe w2 (e1.trans e2)) z2 fun x3 v3 H3 M3 w3 e3 n3 z3 => ?_
  have nx : Dx K H0 H3 M3 (.d (.dic kvs)) (.ref a) := Dx.xe (d := .d (.dic kvs)) w1 (e2.trans e3) ⟨a, ws, rfl, ha, nk⟩
  obtain ⟨a', ws', ea, ha', nk'⟩ := nx
  cases ea
  refine ⟨_, DGet.k (k := kk) ha', ?_⟩
  rcases nk'.val kk with ⟨h1, h2⟩ | ⟨d', v', h1, h2, h3⟩
  · rw [h2]
    exact k x3 _ H3 M3 w3 ((e1.trans e2).trans e3) n3 (z3.2 h1)
  · rw [h2]
    exact k (.d d') _ H3 M3 w3 ((e1.trans e2).trans e3) h3 (z3.1 d' h1)⟩
end
end K
namespace K
open PySem L2 Rp
variable [TabT]
/-! ### repr of data that may hold dicts (their values are data, their keys ints or texts; own instances hold none) -/
mutual
def D.pd : D → Bool
  | .non => true
  | .bl _ => true
  | .int _ => true
  | .str _ => true
  | .tup ds => D.pdL ds
  | .lst ds => D.pdL ds
  | .ins _ fs => D.pureF fs
  | .dic kvs => D.pdK kvs
  | _ => false
def D.pdL : List D → Bool
  | [] => true
  | d :: ds => D.pd d && D.pdL ds
def D.pdK : List (Key × D) → Bool
  | [] => true
  | (_, d) :: ds => D.pd d && D.pdK ds
end
section
variable {K : PySem.W.Frag}
mutual
theorem pd_of : ∀ d : D, d.pure = true → d.pd = true
  | .non, _ => rfl
  | .bl _, _ => rfl
  | .int _, _ => rfl
  | .str _, _ => rfl
  | .tup ds, p => pdL_of ds p
  | .lst ds, p => pdL_of ds p
  | .ins _ _, p => p
  | .raw _, p => by cases p
  | .dic _, p => by cases p
  | .deck, p => by cases p
  | .scr _, p => by cases p
theorem pdL_of : ∀ ds : List D, D.pureL ds = true → D.pdL ds = true
  | [], _ => rfl
  | d :: ds, p => Bool.and_eq_true_iff.mpr ⟨pd_of d (Bool.and_eq_true_iff.mp p).1, pdL_of ds (Bool.and_eq_true_iff.mp p).2⟩
end
theorem sv_inv2 {H : Hp} {M : Mk_} {e : D} {v : V} (pe : e.pd = true) (k : Dn K H M e v) (hv : ∀ a, v ≠ .ref a) : e.sv = some v := by
  cases e with
  | non => have k : v = _ := k; rw [k]; rfl
  | bl _ => have k : v = _ := k; rw [k]; rfl
  | int _ => have k : v = _ := k; rw [k]; rfl
  | str _ => have k : v = _ := k; rw [k]; rfl
  | raw _ => cases pe
  | dic _ => obtain ⟨a, _, q, _⟩ := k; exact absurd q (hv a)
  | deck => cases pe
  | scr _ => cases pe
  | tup _ => obtain ⟨a, _, q, _⟩ := k; exact absurd q (hv a)
  | lst _ => obtain ⟨a, _, q, _⟩ := k; exact absurd q (hv a)
  | ins _ _ => obtain ⟨a, _, _, q, _⟩ := k; exact absurd q (hv a)
/-- what stands at an address that data names -/
theorem at_ref {H : Hp} {M : Mk_} {e : D} {a : Addr} (pe : e.pd = true) (k : Dn K H M e (.ref a)) : (∃ es vs, e = .tup es ∧ H a = some (.tup vs) ∧ DnL K H M es vs) ∨ (∃ es vs, e = .lst es ∧ H a = some (.lst vs) ∧ DnL K H M es vs) ∨ (∃ C dx fs ws, e = .ins C fs ∧ H a = some (.ins C dx ws) ∧ DnF K H M fs ws) ∨ ∃ es ws, e = .dic es ∧ H a = some (.dK ws) ∧ DnK K H M es ws := by
  cases e with
  | tup es => obtain ⟨b, vs, q, l, n⟩ := k; cases q; exact .inl ⟨_, _, rfl, l, n⟩
  | lst es => obtain ⟨b, vs, q, l, _, n⟩ := k; cases q; exact .inr (.inl ⟨_, _, rfl, l, n⟩)
  | ins C fs => obtain ⟨b, dx, ws, q, l, n⟩ := k; cases q; exact .inr (.inr (.inl ⟨_, _, _, _, rfl, l, n⟩))
  | dic es => obtain ⟨b, ws, q, l, n⟩ := k; cases q; exact .inr (.inr (.inr ⟨_, _, rfl, l, n⟩))
  | non => have k : V.ref a = V.non := k; cases k
  | bl _ => have k : V.ref a = V.bl _ := k; cases k
  | int _ => have k : V.ref a = V.int _ := k; cases k
  | str _ => have k : V.ref a = V.str _ := k; cases k
  | raw _ => cases pe
  | deck => cases pe
  | scr _ => cases pe
mutual
theorem Dn.det2 {H : Hp} {M : Mk_} : ∀ (d e : D) (v : V), d.pd = true → e.pd = true → Dn K H M d v → Dn K H M e v → d = e
  | .non, e, v, _, pe, h, k => by
    have h : v = _ := h
    subst h
    exact sv_inj (v := .non) rfl (sv_inv2 pe k fun _ z => nomatch z)
  | .bl b, e, v, _, pe, h, k => by
    have h : v = _ := h
    subst h
    exact sv_inj (v := .bl b) rfl (sv_inv2 pe k fun _ z => nomatch z)
  | .int b, e, v, _, pe, h, k => by
    have h : v = _ := h
    subst h
    exact sv_inj (v := .int b) rfl (sv_inv2 pe k fun _ z => nomatch z)
  | .str b, e, v, _, pe, h, k => by
    have h : v = _ := h
    subst h
    exact sv_inj (v := .str b) rfl (sv_inv2 pe k fun _ z => nomatch z)
  | .tup ds, e, v, pd, pe, ⟨a, vs, ev, l, n⟩, k => by
    subst ev
    rcases at_ref pe k with ⟨es, us, rfl, l2, n2⟩ | ⟨es, us, rfl, l2, n2⟩ | ⟨_, _, _, _, rfl, l2, _⟩ | ⟨_, _, rfl, l2, _⟩ <;> rw [l] at l2 <;> cases l2
    rw [DnL.det2 ds es vs pd pe n n2]
  | .lst ds, e, v, pd, pe, ⟨a, vs, ev, l, _, n⟩, k => by
    subst ev
    rcases at_ref pe k with ⟨es, us, rfl, l2, n2⟩ | ⟨es, us, rfl, l2, n2⟩ | ⟨_, _, _, _, rfl, l2, _⟩ | ⟨_, _, rfl, l2, _⟩ <;> rw [l] at l2 <;> cases l2
    rw [DnL.det2 ds es vs pd pe n n2]
  | .ins C fs, e, v, pd, pe, ⟨a, dx, ws, ev, l, n⟩, k => by
    subst ev
    rcases at_ref pe k with ⟨es, us, rfl, l2, n2⟩ | ⟨es, us, rfl, l2, n2⟩ | ⟨_, _, fs2, _, rfl, l2, n2⟩ | ⟨_, _, rfl, l2, _⟩ <;> rw [l] at l2 <;> cases l2
    rw [DnF.det fs fs2 ws pd pe n n2]
  | .dic ds, e, v, pd, pe, ⟨a, ws, ev, l, n⟩, k => by
    subst ev
    rcases at_ref pe k with ⟨es, us, rfl, l2, n2⟩ | ⟨es, us, rfl, l2, n2⟩ | ⟨_, _, fs2, _, rfl, l2, n2⟩ | ⟨es, _, rfl, l2, n2⟩ <;> rw [l] at l2 <;> cases l2
    rw [DnK.det2 ds es ws pd pe n n2]
  | .raw _, _, _, pd, _, _, _ => by cases pd
  | .deck, _, _, pd, _, _, _ => by cases pd
  | .scr _, _, _, pd, _, _, _ => by cases pd
theorem DnL.det2 {H : Hp} {M : Mk_} : ∀ (ds es : List D) (vs : List V), D.pdL ds = true → D.pdL es = true → DnL K H M ds vs → DnL K H M es vs → ds = es
  | [], es, vs, _, _, h, k => by
    have h : vs = [] := h
    subst h
    cases es with
    | nil => rfl
    | cons e es => obtain ⟨_, _, q, _⟩ := k; cases q
  | d :: ds, es, vs, pd, pe, ⟨u, us, q, h, n⟩, k => by
    subst q
    cases es with
    | nil => have k : u :: us = [] := k; cases k
    | cons e es =>
      obtain ⟨_, _, q, h2, n2⟩ := k
      cases q
      have pd := Bool.and_eq_true_iff.mp pd
      have pe := Bool.and_eq_true_iff.mp pe
      rw [Dn.det2 d e u pd.1 pe.1 h h2, DnL.det2 ds es us pd.2 pe.2 n n2]
theorem DnK.det2 {H : Hp} {M : Mk_} : ∀ (ds es : List (Key × D)) (vs : List (Key × V)), D.pdK ds = true → D.pdK es = true → DnK K H M ds vs → DnK K H M es vs → ds = es
  | [], es, vs, _, _, h, k => by
    have h : vs = [] := h
    subst h
    cases es with
    | nil => rfl
    | cons e es => obtain ⟨_, _, q, _⟩ := k; cases q
  | (x, d) :: ds, es, vs, pd, pe, ⟨u, us, q, h, n⟩, k => by
    subst q
    cases es with
    | nil => have k : (x, u) :: us = [] := k; cases k
    | cons e es =>
      obtain ⟨y, e⟩ := e
      obtain ⟨_, _, q, h2, n2⟩ := k
      cases q
      have pd := Bool.and_eq_true_iff.mp pd
      have pe := Bool.and_eq_true_iff.mp pe
      rw [Dn.det2 d e u pd.1 pe.1 h h2, DnK.det2 ds es us pd.2 pe.2 n n2]
end
mutual
/-- where the parts stand that hold others, dicts too -/
def ad2 (H : Hp) : D → V → List Addr
  | .tup ds, .ref a => a :: (match H a with
    | some (.tup vs) => ad2L H ds vs
    | _ => [])
  | .lst ds, .ref a => a :: (match H a with
    | some (.lst vs) => ad2L H ds vs
    | _ => [])
  | .dic ds, .ref a => a :: (match H a with
    | some (.dK vs) => ad2K H ds vs
    | _ => [])
  | .ins C fs, v => adr H (.ins C fs) v
  | _, _ => []
def ad2L (H : Hp) : List D → List V → List Addr
  | d :: ds, v :: vs => ad2 H d v ++ ad2L H ds vs
  | _, _ => []
def ad2K (H : Hp) : List (Key × D) → List (Key × V) → List Addr
  | (_, d) :: ds, (_, v) :: vs => ad2 H d v ++ ad2K H ds vs
  | _, _ => []
end
theorem ad2_tup {H : Hp} {ds : List D} {a : Addr} {vs : List V} (h : H a = some (.tup vs)) : ad2 H (.tup ds) (.ref a) = a :: ad2L H ds vs := by unfold ad2; rw [h]
theorem ad2_lst {H : Hp} {ds : List D} {a : Addr} {vs : List V} (h : H a = some (.lst vs)) : ad2 H (.lst ds) (.ref a) = a :: ad2L H ds vs := by unfold ad2; rw [h]
theorem ad2_dic {H : Hp} {ds : List (Key × D)} {a : Addr} {vs : List (Key × V)} (h : H a = some (.dK vs)) : ad2 H (.dic ds) (.ref a) = a :: ad2K H ds vs := by unfold ad2; rw [h]
theorem ad2_ins {H : Hp} {C : Addr} {fs : List (Str × D)} {v : V} : ad2 H (.ins C fs) v = adr H (.ins C fs) v := by cases v <;> rfl
def Sub2 (K : PySem.W.Frag) (H : Hp) (m : Nat) (b : Addr) : Prop := ∃ e : D, e.pd = true ∧ sizeOf e < m ∧ Dn K H M0_ e (.ref b)
theorem Sub2.mono {H : Hp} {m n : Nat} {b : Addr} (h : Sub2 K H m b) (l : m ≤ n) : Sub2 K H n b := let ⟨e, p, s, d⟩ := h; ⟨e, p, Nat.lt_of_lt_of_le s l, d⟩
theorem sub2_no {H : Hp} {d : D} {b : Addr} (p : d.pd = true) (h : Dn K H M0_ d (.ref b)) : ¬ Sub2 K H (sizeOf d) b := fun ⟨e, pe, s, k⟩ => by
  rw [Dn.det2 e d _ pe p k h] at s
  exact Nat.lt_irrefl _ s
mutual
theorem ad2_sub {H : Hp} : ∀ (d : D) (v : V), d.pd = true → Dn K H M0_ d v → ∀ b ∈ ad2 H d v, Sub2 K H (sizeOf d + 1) b
  | .tup ds, _, p, h, b, hb => by
    obtain ⟨a, vs, e, l, n⟩ := id h
    subst e
    rw [ad2_tup l] at hb
    have sz : sizeOf (D.tup ds) = 1 + sizeOf ds := by simp
    rcases List.mem_cons.mp hb with rfl | hb
    · exact ⟨_, p, Nat.lt_succ_self _, h⟩
    · exact (ad2L_sub ds vs p n b hb).mono (by rw [sz]; omega)
  | .lst ds, _, p, h, b, hb => by
    obtain ⟨a, vs, e, l, _, n⟩ := id h
    subst e
    rw [ad2_lst l] at hb
    have sz : sizeOf (D.lst ds) = 1 + sizeOf ds := by simp
    rcases List.mem_cons.mp hb with rfl | hb
    · exact ⟨_, p, Nat.lt_succ_self _, h⟩
    · exact (ad2L_sub ds vs p n b hb).mono (by rw [sz]; omega)
  | .dic ds, _, p, h, b, hb => by
    obtain ⟨a, vs, e, l, n⟩ := id h
    subst e
    rw [ad2_dic l] at hb
    have sz : sizeOf (D.dic ds) = 1 + sizeOf ds := by simp
    rcases List.mem_cons.mp hb with rfl | hb
    · exact ⟨_, p, Nat.lt_succ_self _, h⟩
    · exact (ad2K_sub ds vs p n b hb).mono (by rw [sz]; omega)
  | .ins C fs, v, p, h, b, hb => by
    rw [ad2_ins] at hb
    obtain ⟨e, pe, s, _, k⟩ := adr_sub (K := K) (.ins C fs) v p h b hb
    exact ⟨e, pd_of e pe, s, k⟩
  | .non, v, _, _, b, hb => by cases v <;> cases hb
  | .bl _, v, _, _, b, hb => by cases v <;> cases hb
  | .int _, v, _, _, b, hb => by cases v <;> cases hb
  | .str _, v, _, _, b, hb => by cases v <;> cases hb
  | .raw _, v, _, _, b, hb => by cases v <;> cases hb
  | .deck, v, _, _, b, hb => by cases v <;> cases hb
  | .scr _, v, _, _, b, hb => by cases v <;> cases hb
theorem ad2L_sub {H : Hp} : ∀ (ds : List D) (vs : List V), D.pdL ds = true → DnL K H M0_ ds vs → ∀ b ∈ ad2L H ds vs, Sub2 K H (sizeOf ds) b
  | [], vs, _, _, b, hb => by cases vs <;> cases hb
  | d :: ds, _, p, ⟨u, us, e, h, n⟩, b, hb => by
    subst e
    have p := Bool.and_eq_true_iff.mp p
    have sz : sizeOf (d :: ds) = 1 + sizeOf d + sizeOf ds := rfl
    have hb : b ∈ ad2 H d u ++ ad2L H ds us := hb
    rcases List.mem_append.mp hb with hb | hb
    · exact (ad2_sub d u p.1 h b hb).mono (by rw [sz]; omega)
    · exact (ad2L_sub ds us p.2 n b hb).mono (by rw [sz]; omega)
theorem ad2K_sub {H : Hp} : ∀ (ds : List (Key × D)) (vs : List (Key × V)), D.pdK ds = true → DnK K H M0_ ds vs → ∀ b ∈ ad2K H ds vs, Sub2 K H (sizeOf ds) b
  | [], vs, _, _, b, hb => by cases vs <;> cases hb
  | (x, d) :: ds, _, p, ⟨u, us, e, h, n⟩, b, hb => by
    subst e
    have p := Bool.and_eq_true_iff.mp p
    have sz : sizeOf ((x, d) :: ds) = 1 + (1 + sizeOf x + sizeOf d) + sizeOf ds := rfl
    have hb : b ∈ ad2 H d u ++ ad2K H ds us := hb
    rcases List.mem_append.mp hb with hb | hb
    · exact (ad2_sub d u p.1 h b hb).mono (by rw [sz]; omega)
    · exact (ad2K_sub ds us p.2 n b hb).mono (by rw [sz]; omega)
end
/-! a dict is locked: what holds no dict stands -/
theorem lk_ne {H : Hp} {a b : Addr} {ws : List (Key × V)} {o : HO} (hq : H a = some (.dK ws)) (h : H b = some o) (no : ∀ ws, o ≠ .dK ws) : b ≠ a := fun z => by
  rw [z, hq] at h
  exact no ws (Option.some.inj h).symm
mutual
theorem lock_p {H : Hp} {a : Addr} {ws : List (Key × V)} {o : HO} (hq : H a = some (.dK ws)) : ∀ (d : D) (v : V), d.pure = true → Dn K H M0_ d v → Dn K (upd H a o) M0_ d v ∧ adr (upd H a o) d v = adr H d v
  | .tup ds, _, p, h => by
    obtain ⟨b, vs, e, l, n⟩ := id h
    subst e
    have l' : (upd H a o) b = some (.tup vs) := by rw [upd_ne (lk_ne hq l fun _ z => nomatch z)]; exact l
    obtain ⟨n', e'⟩ := lock_pL hq (o := o) ds vs p n
    exact ⟨⟨b, vs, rfl, l', n'⟩, by rw [adr_tup l, adr_tup l', e']⟩
  | .lst ds, _, p, h => by
    obtain ⟨b, vs, e, l, m, n⟩ := id h
    subst e
    have l' : (upd H a o) b = some (.lst vs) := by rw [upd_ne (lk_ne hq l fun _ z => nomatch z)]; exact l
    obtain ⟨n', e'⟩ := lock_pL hq (o := o) ds vs p n
    exact ⟨⟨b, vs, rfl, l', m, n'⟩, by rw [adr_lst l, adr_lst l', e']⟩
  | .ins C fs, _, p, h => by
    obtain ⟨b, dx, vs, e, l, n⟩ := id h
    subst e
    have l' : (upd H a o) b = some (.ins C dx vs) := by rw [upd_ne (lk_ne hq l fun _ z => nomatch z)]; exact l
    obtain ⟨n', e'⟩ := lock_pF hq (o := o) fs vs p n
    exact ⟨⟨b, dx, vs, rfl, l', n'⟩, by rw [adr_ins l, adr_ins l', e']⟩
  | .non, v, _, h => ⟨h, by cases v <;> rfl⟩
  | .bl _, v, _, h => ⟨h, by cases v <;> rfl⟩
  | .int _, v, _, h => ⟨h, by cases v <;> rfl⟩
  | .str _, v, _, h => ⟨h, by cases v <;> rfl⟩
  | .raw _, _, p, _ => by cases p
  | .dic _, _, p, _ => by cases p
  | .deck, _, p, _ => by cases p
  | .scr _, _, p, _ => by cases p
theorem lock_pL {H : Hp} {a : Addr} {ws : List (Key × V)} {o : HO} (hq : H a = some (.dK ws)) : ∀ (ds : List D) (vs : List V), D.pureL ds = true → DnL K H M0_ ds vs → DnL K (upd H a o) M0_ ds vs ∧ adrL (upd H a o) ds vs = adrL H ds vs
  | [], vs, _, h => ⟨h, by cases vs <;> rfl⟩
  | d :: ds, _, p, ⟨u, us, e, h, n⟩ => by
    subst e
    have p := Bool.and_eq_true_iff.mp p
    obtain ⟨h1, e1⟩ := lock_p hq (o := o) d u p.1 h
    obtain ⟨h2, e2⟩ := lock_pL hq (o := o) ds us p.2 n
    refine ⟨⟨u, us, rfl, h1, h2⟩, ?_⟩
    show adr _ d u ++ adrL _ ds us = adr H d u ++ adrL H ds us
    rw [e1, e2]
theorem lock_pF {H : Hp} {a : Addr} {ws : List (Key × V)} {o : HO} (hq : H a = some (.dK ws)) : ∀ (ds : List (Str × D)) (vs : List (Str × V)), D.pureF ds = true → DnF K H M0_ ds vs → DnF K (upd H a o) M0_ ds vs ∧ adrF (upd H a o) ds vs = adrF H ds vs
  | [], vs, _, h => ⟨h, by cases vs <;> rfl⟩
  | (x, d) :: ds, _, p, ⟨u, us, e, h, n⟩ => by
    subst e
    have p := Bool.and_eq_true_iff.mp p
    obtain ⟨h1, e1⟩ := lock_p hq (o := o) d u p.1 h
    obtain ⟨h2, e2⟩ := lock_pF hq (o := o) ds us p.2 n
    refine ⟨⟨u, us, rfl, h1, h2⟩, ?_⟩
    show adr _ d u ++ adrF _ ds us = adr H d u ++ adrF H ds us
    rw [e1, e2]
end
mutual
theorem lock_d {H : Hp} {a : Addr} {ws : List (Key × V)} {o : HO} (hq : H a = some (.dK ws)) : ∀ (d : D) (v : V), d.pd = true → Dn K H M0_ d v → a ∉ ad2 H d v → Dn K (upd H a o) M0_ d v ∧ ad2 (upd H a o) d v = ad2 H d v
  | .tup ds, _, p, h, na => by
    obtain ⟨b, vs, e, l, n⟩ := id h
    subst e
    rw [ad2_tup l] at na
    have l' : (upd H a o) b = some (.tup vs) := by rw [upd_ne (lk_ne hq l fun _ z => nomatch z)]; exact l
    obtain ⟨n', e'⟩ := lock_dL hq (o := o) ds vs p n fun z => na (List.mem_cons_of_mem _ z)
    exact ⟨⟨b, vs, rfl, l', n'⟩, by rw [ad2_tup l, ad2_tup l', e']⟩
  | .lst ds, _, p, h, na => by
    obtain ⟨b, vs, e, l, m, n⟩ := id h
    subst e
    rw [ad2_lst l] at na
    have l' : (upd H a o) b = some (.lst vs) := by rw [upd_ne (lk_ne hq l fun _ z => nomatch z)]; exact l
    obtain ⟨n', e'⟩ := lock_dL hq (o := o) ds vs p n fun z => na (List.mem_cons_of_mem _ z)
    exact ⟨⟨b, vs, rfl, l', m, n'⟩, by rw [ad2_lst l, ad2_lst l', e']⟩
  | .dic ds, _, p, h, na => by
    obtain ⟨b, vs, e, l, n⟩ := id h
    subst e
    rw [ad2_dic l] at na
    have l' : (upd H a o) b = some (.dK vs) := by rw [upd_ne fun z => na (by rw [z]; exact List.mem_cons_self)]; exact l
    obtain ⟨n', e'⟩ := lock_dK hq (o := o) ds vs p n fun z => na (List.mem_cons_of_mem _ z)
    exact ⟨⟨b, vs, rfl, l', n'⟩, by rw [ad2_dic l, ad2_dic l', e']⟩
  | .ins C fs, v, p, h, _ => by
    rw [ad2_ins, ad2_ins]
    exact lock_p hq (o := o) (.ins C fs) v p h
  | .non, v, _, h, _ => ⟨h, by cases v <;> rfl⟩
  | .bl _, v, _, h, _ => ⟨h, by cases v <;> rfl⟩
  | .int _, v, _, h, _ => ⟨h, by cases v <;> rfl⟩
  | .str _, v, _, h, _ => ⟨h, by cases v <;> rfl⟩
  | .raw _, _, p, _, _ => by cases p
  | .deck, _, p, _, _ => by cases p
  | .scr _, _, p, _, _ => by cases p
theorem lock_dL {H : Hp} {a : Addr} {ws : List (Key × V)} {o : HO} (hq : H a = some (.dK ws)) : ∀ (ds : List D) (vs : List V), D.pdL ds = true → DnL K H M0_ ds vs → a ∉ ad2L H ds vs → DnL K (upd H a o) M0_ ds vs ∧ ad2L (upd H a o) ds vs = ad2L H ds vs
  | [], vs, _, h, _ => ⟨h, by cases vs <;> rfl⟩
  | d :: ds, _, p, ⟨u, us, e, h, n⟩, na => by
    subst e
    have p := Bool.and_eq_true_iff.mp p
    have na : a ∉ ad2 H d u ++ ad2L H ds us := na
    obtain ⟨h1, e1⟩ := lock_d hq (o := o) d u p.1 h fun z => na (List.mem_append_left _ z)
    obtain ⟨h2, e2⟩ := lock_dL hq (o := o) ds us p.2 n fun z => na (List.mem_append_right _ z)
    refine ⟨⟨u, us, rfl, h1, h2⟩, ?_⟩
    show ad2 _ d u ++ ad2L _ ds us = ad2 H d u ++ ad2L H ds us
    rw [e1, e2]
theorem lock_dK {H : Hp} {a : Addr} {ws : List (Key × V)} {o : HO} (hq : H a = some (.dK ws)) : ∀ (ds : List (Key × D)) (vs : List (Key × V)), D.pdK ds = true → DnK K H M0_ ds vs → a ∉ ad2K H ds vs → DnK K (upd H a o) M0_ ds vs ∧ ad2K (upd H a o) ds vs = ad2K H ds vs
  | [], vs, _, h, _ => ⟨h, by cases vs <;> rfl⟩
  | (x, d) :: ds, _, p, ⟨u, us, e, h, n⟩, na => by
    subst e
    have p := Bool.and_eq_true_iff.mp p
    have na : a ∉ ad2 H d u ++ ad2K H ds us := na
    obtain ⟨h1, e1⟩ := lock_d hq (o := o) d u p.1 h fun z => na (List.mem_append_left _ z)
    obtain ⟨h2, e2⟩ := lock_dK hq (o := o) ds us p.2 n fun z => na (List.mem_append_right _ z)
    refine ⟨⟨u, us, rfl, h1, h2⟩, ?_⟩
    show ad2 _ d u ++ ad2K _ ds us = ad2 H d u ++ ad2K H ds us
    rw [e1, e2]
end
mutual
/-- the text of data with dicts -/
def D.re2 (own : Addr → List (Str × D) → Str) : D → Str
  | .non => ("None" : String)
  | .bl b => (if b then "True" else "False" : String)
  | .int i => nT i
  | .str x => reprText x
  | .tup ds => tupleText (D.re2L own ds)
  | .lst ds => listText (D.re2L own ds)
  | .ins C fs => own C fs
  | .dic kvs => PySem.dictText (D.re2K own kvs)
  | _ => ("" : String)
def D.re2L (own : Addr → List (Str × D) → Str) : List D → List Str
  | [] => []
  | d :: ds => D.re2 own d :: D.re2L own ds
def D.re2K (own : Addr → List (Str × D) → Str) : List (Key × D) → List Str
  | [] => []
  | (k, d) :: ds => (D.rep own (keyD k) ++ ": " ++ D.re2 own d) :: D.re2K own ds
end
mutual
def D.ro2 (good : Nat → Addr → List (Str × D) → Prop) : D → Nat → Prop
  | .non, _ => True
  | .bl _, _ => True
  | .int i, _ => Sz 1600 i
  | .str x, _ => (reprText x).length ≤ sizeLine
  | .tup ds, n => ∃ m, n = m + 2 ∧ D.ro2L good ds m
  | .lst ds, n => ∃ m, n = m + 2 ∧ D.ro2L good ds m
  | .ins C fs, n => good n C fs
  | .dic kvs, n => ∃ m, n = m + 2 ∧ D.ro2K good kvs m
  | _, _ => False
def D.ro2L (good : Nat → Addr → List (Str × D) → Prop) : List D → Nat → Prop
  | [], _ => True
  | d :: ds, n => D.ro2 good d n ∧ D.ro2L good ds n
def D.ro2K (good : Nat → Addr → List (Str × D) → Prop) : List (Key × D) → Nat → Prop
  | [], _ => True
  | (k, d) :: ds, n => D.rok good (keyD k) n ∧ D.ro2 good d n ∧ D.ro2K good ds n
end
theorem re2L_map {own : Addr → List (Str × D) → Str} : ∀ ds : List D, D.re2L own ds = ds.map (D.re2 own)
  | [] => rfl
  | d :: ds => by
    unfold D.re2L
    rw [List.map_cons, re2L_map ds]
theorem re2K_len {own : Addr → List (Str × D) → Str} : ∀ ds : List (Key × D), (D.re2K own ds).length = ds.length
  | [] => rfl
  | (k, d) :: ds => by
    unfold D.re2K
    rw [List.length_cons, List.length_cons, re2K_len ds]
theorem DnK.len2 {H : Hp} {M : Mk_} : ∀ {ds : List (Key × D)} {vs : List (Key × V)}, DnK K H M ds vs → vs.length = ds.length
  | [], vs, h => by
    have h : vs = [] := h
    rw [h]
    rfl
  | (x, d) :: ds, _, ⟨u, us, e, _, n⟩ => by
    subst e
    rw [List.length_cons, List.length_cons, n.len2]
mutual
theorem D.says2 {X : Cx} (hX : X.K = K) {good : Nat → Addr → List (Str × D) → Prop} {own : Addr → List (Str × D) → Str} (ow : OwnSays X K good own) : ∀ (d : D) (n : Nat) (H : Hp) (v : V), d.pd = true → D.ro2 good d n → Dn K H M0_ d v → Says X n (ad2 H d v) H v (D.re2 own d)
  | .non, n, H, v, _, _, h => by
    have h : v = _ := h
    subst h
    exact says_non.mono (Nat.zero_le _) fun _ z => nomatch z
  | .bl b, n, H, v, _, _, h => by
    have h : v = _ := h
    subst h
    exact (says_bl b).mono (Nat.zero_le _) fun _ z => nomatch z
  | .int i, n, H, v, _, r, h => by
    have h : v = _ := h
    subst h
    exact (says_int (Nat.lt_trans (Sz.log r (by decide)) (by decide))).mono (Nat.zero_le _) fun _ z => nomatch z
  | .str x, n, H, v, _, r, h => by
    have h : v = _ := h
    subst h
    exact (says_str r).mono (Nat.zero_le _) fun _ z => nomatch z
  | .tup ds, n, H, v, p, ⟨m, em, r⟩, h => by
    obtain ⟨a, vs, ev, l, nl⟩ := id h
    subst em ev
    have sz : sizeOf (D.tup ds) = 1 + sizeOf ds := by simp
    have na : a ∉ ad2L H ds vs := fun z => sub2_no (d := .tup ds) p h ((ad2L_sub ds vs p nl a z).mono (by rw [sz]; omega))
    rw [ad2_tup l]
    exact says_tup (by rw [hX]; exact .inl (.of l)) na (by rw [re2L_map, List.length_map]; exact nl.len.symm) fun i x hx => D.says2L hX ow ds m H vs p r nl i x hx
  | .lst ds, n, H, v, p, ⟨m, em, r⟩, h => by
    obtain ⟨a, vs, ev, l, _, nl⟩ := id h
    subst em ev
    have sz : sizeOf (D.lst ds) = 1 + sizeOf ds := by simp
    have na : a ∉ ad2L H ds vs := fun z => sub2_no (d := .lst ds) p h ((ad2L_sub ds vs p nl a z).mono (by rw [sz]; omega))
    rw [ad2_lst l]
    exact says_lst (by rw [hX]; exact .inl (.of l)) na (by rw [re2L_map, List.length_map]; exact nl.len.symm) fun i x hx => D.says2L hX ow ds m H vs p r nl i x hx
  | .dic ds, n, H, v, p, ⟨m, em, r⟩, h => by
    obtain ⟨a, ws, ev, l, nl⟩ := id h
    subst em ev
    have sz : sizeOf (D.dic ds) = 1 + sizeOf ds := by simp
    have na : a ∉ ad2K H ds ws := fun z => sub2_no (d := .dic ds) p h ((ad2K_sub ds ws p nl a z).mono (by rw [sz]; omega))
    rw [ad2_dic l]
    refine says_dict l na fun od => ⟨by rw [re2K_len]; exact nl.len2.symm, fun i k x hx => ?_⟩
    obtain ⟨nl', e'⟩ := lock_dK l (o := .frz od (.dK ws)) ds ws p nl na
    obtain ⟨t1, t2, q1, q2, q3⟩ := D.says2K hX ow ds m (upd H a (.frz od (.dK ws))) ws p r nl' i k x hx
    exact ⟨t1, t2, q1, by rw [← e']; exact q2, by rw [← e']; exact q3⟩
  | .ins C fs, n, H, v, p, r, h => by
    rw [ad2_ins]
    exact ow n C fs H v r p h
  | .raw _, _, _, _, p, _, _ => by cases p
  | .deck, _, _, _, p, _, _ => by cases p
  | .scr _, _, _, _, p, _, _ => by cases p
theorem D.says2L {X : Cx} (hX : X.K = K) {good : Nat → Addr → List (Str × D) → Prop} {own : Addr → List (Str × D) → Str} (ow : OwnSays X K good own) : ∀ (ds : List D) (n : Nat) (H : Hp) (vs : List V), D.pdL ds = true → D.ro2L good ds n → DnL K H M0_ ds vs → ∀ (i : Nat) (x : V), vs[i]? = some x → ∃ t, (D.re2L own ds)[i]? = some t ∧ Says X n (ad2L H ds vs) H x t
  | [], n, H, vs, _, _, h, i, x, e => by
    have h : vs = [] := h
    subst h
    cases e
  | d :: ds, n, H, vs, p, r, ⟨u, us, ev, h, nl⟩, i, x, e => by
    have p := Bool.and_eq_true_iff.mp p
    subst ev
    cases i with
    | zero => cases e; exact ⟨_, rfl, (D.says2 hX ow d n H u p.1 r.1 h).mono (Nat.le_refl _) fun b hb => List.mem_append_left _ hb⟩
    | succ i =>
      have e : us[i]? = some x := e
      obtain ⟨t, et, q⟩ := D.says2L hX ow ds n H us p.2 r.2 nl i x e
      exact ⟨t, et, q.mono (Nat.le_refl _) fun b hb => List.mem_append_right _ hb⟩
theorem D.says2K {X : Cx} (hX : X.K = K) {good : Nat → Addr → List (Str × D) → Prop} {own : Addr → List (Str × D) → Str} (ow : OwnSays X K good own) : ∀ (ds : List (Key × D)) (n : Nat) (H : Hp) (vs : List (Key × V)), D.pdK ds = true → D.ro2K good ds n → DnK K H M0_ ds vs → ∀ (i : Nat) (k : Key) (x : V), vs[i]? = some (k, x) → ∃ t1 t2 : Str, (D.re2K own ds)[i]? = some (t1 ++ ": " ++ t2) ∧ Says X n (ad2K H ds vs) H (kV k) t1 ∧ Says X n (ad2K H ds vs) H x t2
  | [], n, H, vs, _, _, h, i, k, x, e => by
    have h : vs = [] := h
    subst h
    cases e
  | (k0, d) :: ds, n, H, vs, p, r, ⟨u, us, ev, h, nl⟩, i, k, x, e => by
    have p := Bool.and_eq_true_iff.mp p
    subst ev
    cases i with
    | zero =>
      cases e
      refine ⟨_, _, rfl, ?_, (D.says2 hX ow d n H u p.1 r.2.1 h).mono (Nat.le_refl _) fun b hb => List.mem_append_left _ hb⟩
      cases k0 with
      | inl i => exact (says_int (Nat.lt_trans (Sz.log r.1 (by decide)) (by decide))).mono (Nat.zero_le _) fun _ z => nomatch z
      | inr y => exact (says_str r.1).mono (Nat.zero_le _) fun _ z => nomatch z
    | succ i =>
      have e : us[i]? = some (k, x) := e
      obtain ⟨t1, t2, et, q1, q2⟩ := D.says2K hX ow ds n H us p.2 r.2.2 nl i k x e
      exact ⟨t1, t2, et, q1.mono (Nat.le_refl _) fun b hb => List.mem_append_right _ hb, q2.mono (Nat.le_refl _) fun b hb => List.mem_append_right _ hb⟩
end
mutual
theorem Dn.m02 {H : Hp} {M : Mk_} : ∀ (d : D) (v : V), d.pd = true → Dn K H M d v → Dn K H M0_ d v
  | .non, _, _, h => h
  | .bl _, _, _, h => h
  | .int _, _, _, h => h
  | .str _, _, _, h => h
  | .tup ds, _, p, ⟨a, vs, e, l, n⟩ => ⟨a, vs, e, l, DnL.m02 ds vs p n⟩
  | .lst ds, _, p, ⟨a, vs, e, l, _, n⟩ => ⟨a, vs, e, l, rfl, DnL.m02 ds vs p n⟩
  | .dic ds, _, p, ⟨a, vs, e, l, n⟩ => ⟨a, vs, e, l, DnK.m02 ds vs p n⟩
  | .ins C fs, _, p, ⟨a, dx, ws, e, l, n⟩ => ⟨a, dx, ws, e, l, DnF.m0 fs ws p n⟩
  | .raw _, _, p, _ => by cases p
  | .deck, _, p, _ => by cases p
  | .scr _, _, p, _ => by cases p
theorem DnL.m02 {H : Hp} {M : Mk_} : ∀ (ds : List D) (vs : List V), D.pdL ds = true → DnL K H M ds vs → DnL K H M0_ ds vs
  | [], _, _, h => h
  | d :: ds, _, p, ⟨u, us, q, h, n⟩ => ⟨u, us, q, Dn.m02 d u (Bool.and_eq_true_iff.mp p).1 h, DnL.m02 ds us (Bool.and_eq_true_iff.mp p).2 n⟩
theorem DnK.m02 {H : Hp} {M : Mk_} : ∀ (ds : List (Key × D)) (vs : List (Key × V)), D.pdK ds = true → DnK K H M ds vs → DnK K H M0_ ds vs
  | [], _, _, h => h
  | (_, d) :: ds, _, p, ⟨u, us, q, h, n⟩ => ⟨u, us, q, Dn.m02 d u (Bool.and_eq_true_iff.mp p).1 h, DnK.m02 ds us (Bool.and_eq_true_iff.mp p).2 n⟩
end
def ρRepr2 (good : Nat → Addr → List (Str × D) → Prop) (own : Addr → List (Str × D) → Str) (n : Nat) : List DX → (DX → Prop) → Prop := fun xs Q => ∃ d, xs = [.d d] ∧ d.pd = true ∧ D.ro2 good d n ∧ (D.re2 own d).length ≤ sizeLine ∧ Q (.d (.str (D.re2 own d)))
theorem sc_repr2 {X : Cx} {good : Nat → Addr → List (Str × D) → Prop} {own : Addr → List (Str × D) → Str} {n : Nat} (ow : OwnSays X K good own) (hX : X.K = K) : SC K (rRepr X n) (ρRepr2 good own n) := ⟨fun H0 H M xs vs Q Qd w nn h k => by
  obtain ⟨d, rfl, p, r, lz, q⟩ := h
  obtain ⟨v, rfl, n1⟩ := dx1 nn
  refine ⟨v, _, _, rfl, D.says2 hX ow d n H v p r (Dn.m02 d v p n1), lz, fun H2 e => ?_⟩
  obtain ⟨w2, x2⟩ := same_xe w e
  exact k (.d (.str _)) _ H2 M w2 x2 rfl q⟩
end
end K
/-! == where the right one is an own instance with its own ==, the left one of a built-in type -/
namespace Rp
open PySem PySem.Spec PyProof.Rows L2
open PySem.AutoSeq1 (wpAny_loadPart')
section
variable {prog : Program} {w : World} {A : Around} {E : Value → Shared → Prop} {s : Shared} {K : PySem.W.Frag} {x C L f : Addr} {h₀ : Heap} {m : Str → Option Value} {dx : Addr} {od : Option Obj}
open PySem.W Builtin in
/-- the built-in type declines -/
theorem rc_back {u : Value} {T id : String} {Q : Value → Shared → Prop} (hu : A.units < cLine) (FR : Fr h₀ L s.heap m) (X₀ : K.In h₀) (hT : s.TypeIs u T) (slot : Slot T "__eq__" id) (I : InstAt s.heap x (instObj C dx) C od) (hsub : subIn K (.ref C) (.type T) = some false)
    (hone : oneThing? .Eq u (.ref x) = none) (dec : wpAny (model prog w) A (call (.builtin id) [u, .ref x]) (fun v s' => v = .notImplemented ∧ s' = s) E s)
    (hs : findIn K (.ref C) "__eq__" = some (some (.ref f))) (hf : isFn K (.ref f) = true) (h : wpAny (model prog w) A (call (.ref f) [.ref x, u]) (PySem.W.CmpBack Q) E s) : wpAny (model prog w) A (richCompare .Eq u (.ref x)) Q E s := by
  have X := X₀.keeps FR.keep
  have one : wpAny (model prog w) A (tryCompare (.ref x) "__eq__" u) (fun r s' => ∃ v, r = some v ∧ Q v s') E s := by
    unfold tryCompare
    refine wpAny_bind (ifBound_K X I hs hf (wpAny_mono h (fun v s' hv => ?_) fun _ _ e => e))
    cases v <;> first | exact hv.elim | exact wpAny_pure ⟨_, rfl, hv⟩
  have hne : (Value.type T != Value.ref C) = true := by simp
  unfold richCompare
  rw [hone]
  refine wpAny_holding (wpAny_bind (wpAny_cRoomFor hu ?_))
  refine wpAny_bind (wpAny_typeOf hT (wpAny_bind (I.type.here ?_)))
  rw [hne]
  refine wpAny_bind ((looks_subIn X hsub).here ?_)
  simp only [Bool.false_eq_true, if_false, Bool.not_false, if_true]
  refine wpAny_bind (m := tryCompare u _ (.ref x)) (wpAny_tryCompare_declines hT slot (wpAny_mono dec (fun v s₁ h₁ => ⟨h₁.1, ?_⟩) fun _ _ x => x))
  obtain ⟨_, rfl⟩ := h₁
  refine wpAny_bind (wpAny_mono one (fun r s' z => ?_) fun _ _ e => e)
  obtain ⟨v, rfl, hq⟩ := z
  exact wpAny_pure hq
open PySem.W Builtin in
theorem dec_non (hx : s.heap.get? x = some (instObj C dx)) : wpAny (model prog w) A (call (.builtin "NoneType.__eq__") [.none, .ref x]) (fun v s' => v = .notImplemented ∧ s' = s) E s := by
  refine wpAny_call_entry PySem.F.slot_NoneType_eq (typeIs_none s) PySem.F.entry_NoneType_eq ?_ (PySem.F.args_NoneType_eq_2 _ _)
  obtain ⟨hp, g, d, tk, os⟩ := s
  wp_walk using wpAny_loadPart' hx
  exact ⟨_, rfl, rfl, rfl⟩
open PySem.W Builtin in
theorem dec_int {i : Int} {t : Tok} (hx : s.heap.get? x = some (instObj C dx)) : wpAny (model prog w) A (call (.builtin "int.__eq__") [.int i t, .ref x]) (fun v s' => v = .notImplemented ∧ s' = s) E s := by
  refine wpAny_call_entry PySem.F.slot_int_eq (typeIs_int s i t) PySem.F.entry_int_eq ?_ (PySem.F.args_int_eq_2 _ _)
  obtain ⟨hp, g, d, tk, os⟩ := s
  wp_walk using wpAny_loadPart' hx
  exact ⟨_, rfl, rfl, rfl⟩
open PySem.W Builtin in
theorem dec_bool {b : Bool} (hx : s.heap.get? x = some (instObj C dx)) : wpAny (model prog w) A (call (.builtin "int.__eq__") [.bool b, .ref x]) (fun v s' => v = .notImplemented ∧ s' = s) E s := by
  refine wpAny_call_entry PySem.F.slot_bool_eq (PySem.typeIs_bool s b) PySem.F.entry_int_eq ?_ (PySem.F.args_int_eq_2 _ _)
  obtain ⟨hp, g, d, tk, os⟩ := s
  wp_walk using wpAny_loadPart' hx
  exact ⟨_, rfl, rfl, rfl⟩
open PySem.W Builtin in
theorem dec_str {y : Str} {t : Tok} (hx : s.heap.get? x = some (instObj C dx)) : wpAny (model prog w) A (call (.builtin "str.__eq__") [.str y t, .ref x]) (fun v s' => v = .notImplemented ∧ s' = s) E s := by
  refine wpAny_call_entry PySem.F.slot_str_eq (typeIs_str s y t) PySem.F.entry_str_eq ?_ (PySem.F.args_str_eq_2 _ _)
  obtain ⟨hp, g, d, tk, os⟩ := s
  wp_walk using wpAny_loadPart' hx
  exact ⟨_, rfl, rfl, rfl⟩
open PySem.W Builtin in
theorem dec_tup {a : Addr} (hT : s.TypeIs (.ref a) "tuple") (hi : Looks (model prog w) s.heap (isInstance (.ref x) (.type "tuple")) false) : wpAny (model prog w) A (call (.builtin "tuple.__eq__") [.ref a, .ref x]) (fun v s' => v = .notImplemented ∧ s' = s) E s := by
  refine wpAny_call_entry PySem.F.slot_tuple_eq hT PySem.F.entry_tuple_eq ?_ (PySem.F.args_tuple_eq_2 _ _)
  obtain ⟨hp, g, d, tk, os⟩ := s
  wp_walk using PySem.W.Looks.here hi
  exact ⟨_, rfl, rfl, rfl⟩
open PySem.W Builtin in
theorem dec_lst {a : Addr} (hT : s.TypeIs (.ref a) "list") (hi : Looks (model prog w) s.heap (isInstance (.ref x) (.type "list")) false) : wpAny (model prog w) A (call (.builtin "list.__eq__") [.ref a, .ref x]) (fun v s' => v = .notImplemented ∧ s' = s) E s := by
  refine wpAny_call_entry PySem.F.slot_list_eq hT PySem.F.entry_list_eq ?_ (PySem.F.args_list_eq_2 _ _)
  obtain ⟨hp, g, d, tk, os⟩ := s
  wp_walk using PySem.W.Looks.here hi
  exact ⟨_, rfl, rfl, rfl⟩
open PySem.W Builtin in
theorem dec_dict {a : Addr} (hT : s.TypeIs (.ref a) "dict") (hi : Looks (model prog w) s.heap (isInstance (.ref x) (.type "dict")) false) : wpAny (model prog w) A (call (.builtin "dict.__eq__") [.ref a, .ref x]) (fun v s' => v = .notImplemented ∧ s' = s) E s := by
  refine wpAny_call_entry PySem.F.slot_dict_eq hT PySem.F.entry_dict_eq ?_ (PySem.F.args_dict_eq_2 _ _)
  obtain ⟨hp, g, d, tk, os⟩ := s
  wp_walk using PySem.W.Looks.here hi
  exact ⟨_, rfl, rfl, rfl⟩
end
end Rp
/-! in, count, == of rows whose items' == runs the text and may answer either way: the loops -/
namespace Rp
open PySem PySem.SeqAt
open AutoSeq1 (wpAny_loadPart')
open MeetsSeq MeetsSeq2 MeetsSeq3 SeqRoads2
section
variable {prog : Program} {w : World} {A : Around} {R : Result → Shared → Prop}
/-- at each turn the list is read anew: N items, the i-th one compared with x -/
def RowI (prog : Program) (w : World) (A : Around) (E : Value → Shared → Prop) (l : Addr) (x : Value) (N : Nat) (e : Nat → Bool) (I : Nat → Shared → Prop) : Prop :=
  ∀ i s, I i s → ∃ (items : Array Value) (n : Nat), s.heap.get? l = some { cls := .type "list", data := .seq items n } ∧ items.size = N ∧
    ∀ (h1 : i < items.size), wpAny (model prog w) A.in1 (eqBool items[i] x) (fun r s' => r = e i ∧ I (i + 1) s') E s
theorem contains_loopG (l : Addr) (x : Value) (N : Nat) (e : Nat → Bool) (I : Nat → Shared → Prop) (hl : RowI prog w A (fun e s' => R (.error e) s') l x N e I)
    (fin : ∀ i s, I i s → R (.ok (.ret (.bool ((List.range N).any e)))) s) (k : Nat) :
    ∀ i : Nat, N - i = k → i ≤ N → (∀ j, j < i → e j = false) → ∀ s, I i s →
      wpAny (model prog w) A.in1 (Builtin.«list.__contains__.loop» ⟨[.ref l, x, rawInt i], []⟩) (GQ.FinOf prog w A R) (fun e s' => R (.error e) s') s := by
  induction k with
  | zero =>
    intro i hk hi hj s h
    obtain ⟨items, n, hl1, hs1, _⟩ := hl _ _ h
    have hi' : i = N := by omega
    have hany : (List.range N).any e = false := List.any_eq_false.mpr fun j hm => by
      rw [hj j (by have := List.mem_range.mp hm; omega)]
      exact Bool.false_ne_true
    have hR := fin i s h
    rw [hany] at hR
    obtain ⟨hp, g, d, tk, os⟩ := s
    wp_walk using wpAny_loadPart' hl1
    have hi1 : items[((i : Nat) : Int).toNat]? = none := by simp; omega
    rw [hi1]
    wp_walk
    exact hR
  | succ k ih =>
    intro i hk hi hj s h
    obtain ⟨items, n, hl1, hs1, turn⟩ := hl _ _ h
    have hlt : i < items.size := by omega
    have ht := turn hlt
    obtain ⟨hp, g, d, tk, os⟩ := s
    wp_walk using wpAny_loadPart' hl1
    have hi1 : items[((i : Nat) : Int).toNat]? = some items[i] := by simp [hlt]
    have hc : ((i : Int) + 1) = ((i + 1 : Nat) : Int) := by omega
    rw [hi1]
    refine wpAny_bind (wpAny_mono ht (fun r s2 h2 => ?_) fun _ _ x => x)
    obtain ⟨hr, h2⟩ := h2
    cases r with
    | true =>
      have hany : (List.range N).any e = true := List.any_eq_true.mpr ⟨i, List.mem_range.mpr (by omega), hr.symm⟩
      have hR := fin _ s2 h2
      rw [hany] at hR
      obtain ⟨hp2, g2, d2, tk2, os2⟩ := s2
      wp_walk
      exact hR
    | false =>
      have hrec := ih (i + 1) (by omega) (by omega) (fun j hj' => by
        by_cases z : j = i
        · rw [z]; exact hr.symm
        · exact hj j (by omega)) s2 h2
      obtain ⟨hp2, g2, d2, tk2, os2⟩ := s2
      wp_walk
      rw [hc]
      exact ⟨plainId_quiet plain_contains_loop _, codeAny_builtin entry_contains_loop (by
        rw [Around.under_plainId plain_contains_loop _]
        exact hrec)⟩
theorem list_containsG (l : Addr) (x : Value) (N : Nat) (e : Nat → Bool) (I : Nat → Shared → Prop) (hl : RowI prog w A (fun e s' => R (.error e) s') l x N e I)
    (fin : ∀ i s, I i s → R (.ok (.ret (.bool ((List.range N).any e)))) s) {s : Shared} (h : I 0 s) :
    wpAny (model prog w) A.in1 (Builtin.«list.__contains__» ⟨[.ref l, x], []⟩) (GQ.FinOf prog w A R) (fun e s' => R (.error e) s') s := by
  obtain ⟨items, n, hl1, hs1, _⟩ := hl _ _ h
  have hrec := contains_loopG (A := A) (R := R) l x N e I hl fin _ 0 rfl (Nat.zero_le _) (fun j hj => absurd hj (Nat.not_lt_zero j)) s h
  obtain ⟨hp, g, d, tk, os⟩ := s
  wp_walk using wpAny_loadPart' hl1
  exact ⟨plainId_quiet plain_contains_loop _, codeAny_builtin entry_contains_loop (by
    rw [Around.under_plainId plain_contains_loop _]
    exact hrec)⟩
theorem count_loopG (l : Addr) (x : Value) (N : Nat) (e : Nat → Bool) (I : Nat → Shared → Prop) (hl : RowI prog w A (fun e s' => R (.error e) s') l x N e I)
    (fin : ∀ s, I N s → R (.ok (.ret (.int (((List.range N).countP e : Nat) : Int) s.toks))) { s with toks := s.toks + 1 }) (k : Nat) :
    ∀ i : Nat, N - i = k → i ≤ N → ∀ s, I i s →
      wpAny (model prog w) A.in1 (Builtin.«list.count.loop» ⟨[.ref l, x, rawInt i, rawInt (((List.range i).countP e : Nat) : Int)], []⟩) (GQ.FinOf prog w A R) (fun e s' => R (.error e) s') s := by
  induction k with
  | zero =>
    intro i hk hi s h
    obtain ⟨items, n, hl1, hs1, _⟩ := hl _ _ h
    have hi' : i = N := by omega
    have hR := fin s (hi' ▸ h)
    rw [← hi'] at hR
    obtain ⟨hp, g, d, tk, os⟩ := s
    wp_walk using wpAny_loadPart' hl1
    have hi1 : items[((i : Nat) : Int).toNat]? = none := by simp; omega
    rw [hi1]
    wp_walk
    simpa using hR
  | succ k ih =>
    intro i hk hi s h
    obtain ⟨items, n, hl1, hs1, turn⟩ := hl _ _ h
    have hlt : i < items.size := by omega
    have ht := turn hlt
    have hsucc : (List.range (i + 1)).countP e = (List.range i).countP e + (if e i then 1 else 0) := by
      rw [List.range_succ, List.countP_append]
      simp [List.countP_cons]
    obtain ⟨hp, g, d, tk, os⟩ := s
    wp_walk using wpAny_loadPart' hl1
    have hi1 : items[((i : Nat) : Int).toNat]? = some items[i] := by simp [hlt]
    have hc : ((i : Int) + 1) = ((i + 1 : Nat) : Int) := by omega
    rw [hi1]
    refine wpAny_bind (wpAny_mono ht (fun r s2 h2 => ?_) fun _ _ x => x)
    obtain ⟨hr, h2⟩ := h2
    have hrec := ih (i + 1) (by omega) (by omega) s2 h2
    rw [hsucc] at hrec
    obtain ⟨hp2, g2, d2, tk2, os2⟩ := s2
    cases r with
    | true =>
      rw [← hr, if_pos rfl] at hrec
      wp_walk
      rw [hc]
      refine ⟨plainId_quiet plain_count_loop _, codeAny_builtin entry_count_loop (by
        rw [Around.under_plainId plain_count_loop _]
        have e1 : (((List.range i).countP e : Nat) : Int) + 1 = (((List.range i).countP e + 1 : Nat) : Int) := by omega
        first
        | (rw [e1]; exact hrec)
        | (simp only [if_true]; rw [e1]; exact hrec))⟩
    | false =>
      rw [← hr, if_neg Bool.false_ne_true, Nat.add_zero] at hrec
      wp_walk
      rw [hc]
      refine ⟨plainId_quiet plain_count_loop _, codeAny_builtin entry_count_loop (by
        rw [Around.under_plainId plain_count_loop _]
        first
        | exact hrec
        | (simp only [Bool.false_eq_true, if_false]; exact hrec))⟩
theorem list_countG (l : Addr) (x : Value) (N : Nat) (e : Nat → Bool) (I : Nat → Shared → Prop) (hl : RowI prog w A (fun e s' => R (.error e) s') l x N e I)
    (fin : ∀ s, I N s → R (.ok (.ret (.int (((List.range N).countP e : Nat) : Int) s.toks))) { s with toks := s.toks + 1 }) {s : Shared} (h : I 0 s) :
    wpAny (model prog w) A.in1 (Builtin.«list.count» ⟨[.ref l, x], []⟩) (GQ.FinOf prog w A R) (fun e s' => R (.error e) s') s := by
  obtain ⟨items, n, hl1, hs1, _⟩ := hl _ _ h
  have hrec := count_loopG (A := A) (R := R) l x N e I hl fin _ 0 rfl (Nat.zero_le _) s h
  obtain ⟨hp, g, d, tk, os⟩ := s
  wp_walk using wpAny_loadPart' hl1
  exact ⟨plainId_quiet plain_count_loop _, codeAny_builtin entry_count_loop (by
    rw [Around.under_plainId plain_count_loop _]
    exact hrec)⟩
/-- tuples of one length -/
theorem tuple_eqG2 (l b : Addr) (items items2 : Array Value) (n n2 : Nat) (dd dd2 : Option Addr) (sl sl2 : Array (Option Value)) (hsz : items.size = items2.size) (e : Nat → Bool) (I : Nat → Shared → Prop)
    (turn : ∀ i (h1 : i < items.size) (h2 : i < items2.size) s, I i s → wpAny (model prog w) A.in1 (eqBool items[i] items2[i]) (fun r s' => r = e i ∧ I (i + 1) s') (fun e s' => R (.error e) s') s)
    (fin : ∀ i s, I i s → R (.ok (.ret (.bool ((List.range items.size).all e)))) s) {s : Shared} (hl1 : s.heap.get? l = some { cls := .type "tuple", dict := dd, data := .seq items n, slots := sl }) (hb1 : s.heap.get? b = some { cls := .type "tuple", dict := dd2, data := .seq items2 n2, slots := sl2 }) (h : I 0 s) :
    wpAny (model prog w) A.in1 (Builtin.«tuple.__eq__» ⟨[.ref l, .ref b], []⟩) (GQ.FinOf prog w A R) (fun e s' => R (.error e) s') s := by
  have f2 := AutoSeq1.sub_tuple_tuple
  have hZ : (items.toList.zip items2.toList).length = items.size := by simp [hsz]
  have h0 := h
  obtain ⟨hp, g, d, tk, os⟩ := s
  wp_walk using wpAny_loadPart' hl1, wpAny_loadPart' hb1, wpAny_forIn_list _ (fun rest b s' => b.1 = none ∧ ∃ i, rest = (items.toList.zip items2.toList).drop i ∧ i ≤ items.size ∧ (∀ j, j < i → e j = true) ∧ I i s') _
  case turn =>
    rintro ⟨y, x⟩ rest b s' ⟨hb', i, hz, hi, hj, hI⟩
    have hlt : i < (items.toList.zip items2.toList).length := by
      rcases Nat.lt_or_ge i (items.toList.zip items2.toList).length with h' | h'
      · exact h'
      · rw [List.drop_of_length_le h'] at hz; cases hz
    have h1 : i < items.size := hZ ▸ hlt
    have h2 : i < items2.size := hsz ▸ h1
    rw [List.drop_eq_getElem_cons hlt] at hz
    injection hz with hyx hrest
    have hy : y = items[i] := by have := congrArg Prod.fst hyx; simpa using this
    have hx : x = items2[i] := by have := congrArg Prod.snd hyx; simpa using this
    subst hy hx
    refine wpAny_bind (wpAny_mono (turn i h1 h2 s' hI) (fun r s2 q2 => ?_) fun _ _ x => x)
    obtain ⟨hr, q2⟩ := q2
    cases r with
    | true =>
      wp_walk
      exact ⟨rfl, i + 1, hrest, h1, fun j hj' => by
        by_cases z : j = i
        · rw [z]; exact hr.symm
        · exact hj j (by omega), q2⟩
    | false =>
      have hall : (List.range items.size).all e = false := List.all_eq_false.mpr ⟨i, List.mem_range.mpr h1, by rw [← hr]; exact Bool.false_ne_true⟩
      have hR := fin _ s2 q2
      rw [hall] at hR
      wp_walk
      exact hR
  case fin =>
    rintro ⟨b1, b2⟩ s' ⟨hb', i, hz, hi, hj, hI⟩
    simp only at hb'
    subst hb'
    have hge : items.size ≤ i := by
      rcases Nat.lt_or_ge i (items.toList.zip items2.toList).length with h' | h'
      · rw [List.drop_eq_getElem_cons h'] at hz; cases hz
      · exact hZ ▸ h'
    have hi' : i = items.size := by omega
    have hall : (List.range items.size).all e = true := List.all_eq_true.mpr fun j hm => hj j (by have := List.mem_range.mp hm; omega)
    have hR := fin _ s' hI
    rw [hall] at hR
    wp_walk
    simpa [Builtin.Tuple.tupleCompareSizes, hsz] using hR
  case h =>
    exact ⟨rfl, 0, rfl, Nat.zero_le _, fun j hj => absurd hj (Nat.not_lt_zero j), h0⟩
end
end Rp
/-! the same by the abstract heap -/
namespace Rp
open PySem PySem.Spec PyProof.Rows L2
abbrev Eqb := V → V → Bool → Hp → Prop
def MonB (D : Eqb) : Prop := ∀ x y b H H', Ext H H' → D x y b H → D x y b H'
def EqB (X : Cx) (n : Nat) (D : Eqb) : Prop := ∀ (A : Around) (pins : List (Addr × Obj)) (s : Shared) (σ : L2.St) (H : Hp) (x y : V) (u v : Value) (b : Bool), Sub X n A → Inv X pins σ H s → RelV x u → RelV y v → D x y b H →
  wpAny (model X.prog X.w) A (eqBool u v) (fun r s' => r = b ∧ ∃ H', Inv X pins σ H' s' ∧ Ext H H') X.xe s
theorem EqB.mono {X : Cx} {n m : Nat} {D : Eqb} (h : EqB X n D) (hn : n ≤ m) : EqB X m D := fun A pins s σ H x y u v b sb => h A pins s σ H x y u v b (sb.mono hn)
/-- what the own == promises: the answer that R tells -/
def spO (R : Addr → V → Bool → Hp → Prop) : Sp := fun vs H Q _ => ∃ a y b, vs = [.ref a, y] ∧ R a y b H ∧ ∀ H', Ext H H' → Q (.bl b) H'
/-- a value of a built-in type -/
inductive BackV (K : PySem.W.Frag) (H : Hp) : V → String → Prop where
  | non : BackV K H .non "NoneType"
  | bl (b : Bool) : BackV K H (.bl b) "bool"
  | int (i : Int) : BackV K H (.int i) "int"
  | str (x : Str) : BackV K H (.str x) "str"
  | tup {a : Addr} {xs : List V} (h : SqT K H a xs) : BackV K H (.ref a) "tuple"
  | lst {a : Addr} {xs : List V} (h : H a = some (.lst xs)) : BackV K H (.ref a) "list"
  | dK {a : Addr} {kvs : List (Key × V)} (h : H a = some (.dK kvs)) : BackV K H (.ref a) "dict"
theorem BackV.ext {K : PySem.W.Frag} {H H' : Hp} {x : V} {T : String} (h : BackV K H x T) (e : Ext H H') : BackV K H' x T := by
  cases h with
  | non => exact .non
  | bl b => exact .bl b
  | int i => exact .int i
  | str y => exact .str y
  | tup h => exact .tup (h.ext e)
  | lst h => exact .lst (e _ _ h)
  | dK h => exact .dK (e _ _ h)
theorem tyX_ext {K : PySem.W.Frag} {H H' : Hp} {x : V} {t : Value} (h : TyX K H x t) (e : Ext H H') : TyX K H' x t := by
  cases h with
  | base b =>
    cases b with
    | non => exact .base .non
    | bl y => exact .base (.bl y)
    | int y => exact .base (.int y)
    | str y => exact .base (.str y)
    | flt y => exact .base (.flt y)
    | lst h => exact .base (.lst (e _ _ h))
    | frz h => exact .base (.frz (e _ _ h))
    | tup h => exact .base (.tup (e _ _ h))
    | dK h => exact .base (.dK (e _ _ h))
    | dT h => exact .base (.dT (e _ _ h))
    | ins h c1 c2 c3 c4 c5 => exact .base (.ins (e _ _ h) c1 c2 c3 c4 c5)
  | byt y => exact .byt y
  | set h => exact .set (e _ _ h)
  | kList h c => exact .kList h c
  | kTuple h c => exact .kTuple h c
  | kDict h c => exact .kDict h c
  | fTuple h => exact .fTuple (e _ _ h)
  | fDict h => exact .fDict (e _ _ h)
/-- an own instance on either side, or flat values -/
inductive DOw (K : PySem.W.Frag) (C : Addr) (R : Addr → V → Bool → Hp → Prop) : Eqb where
  | same {a : Addr} {H : Hp} : DOw K C R (.ref a) (.ref a) true H
  | left {a dx : Addr} {fs : List (Str × V)} {y : V} {b : Bool} {tb : Value} {H : Hp} (h : H a = some (.ins C dx fs)) (ty : TyX K H y tb) (nf : PySem.W.notFirst K C tb = true) (ne : y ≠ .ref a) (r : R a y b H) : DOw K C R (.ref a) y b H
  | right {a dx : Addr} {fs : List (Str × V)} {x : V} {b : Bool} {T : String} {H : Hp} (h : H a = some (.ins C dx fs)) (ty : BackV K H x T) (hs : PySem.W.subIn K (.ref C) (.type T) = some false) (ne : x ≠ .ref a) (r : R a x b H) : DOw K C R x (.ref a) b H
  | flat {x y : V} {H : Hp} (hx : flatV x = true) (hy : flatV y = true) : DOw K C R x y (eqV x y) H
theorem mon_ow {K : PySem.W.Frag} {C : Addr} {R : Addr → V → Bool → Hp → Prop} (hR : ∀ a y b H H', Ext H H' → R a y b H → R a y b H') : MonB (DOw K C R) := fun x y b H H' e d => by
  cases d with
  | same => exact .same
  | left h ty nf ne r => exact .left (e _ _ h) (tyX_ext ty e) nf ne (hR _ _ _ _ _ e r)
  | right h ty hs ne r => exact .right (e _ _ h) (ty.ext e) hs ne (hR _ _ _ _ _ e r)
  | flat hx hy => exact .flat hx hy
section
variable {prog : Program} {w : World} {A : Around} {E : Value → Shared → Prop} {s : Shared}
theorem eqBool_left {a : Addr} {v : Value} {Q : Bool → Shared → Prop} (hne : v ≠ .ref a) (h : wpAny (model prog w) A (richCompare .Eq (.ref a) v) (fun v s' => ∃ r, v = .bool r ∧ Q r s') E s) : wpAny (model prog w) A (eqBool (.ref a) v) Q E s := by
  unfold eqBool
  refine wpAny_holding ?_
  refine wpAny_ite_split (fun hab => absurd (eq_of_beq hab).symm hne) (fun _ => ?_)
  refine wpAny_bind (wpAny_mono h (fun v s' hv => ?_) fun _ _ x => x)
  obtain ⟨r, rfl, q⟩ := hv
  exact wpAny_truthy_bool q
theorem eqBool_right {a : Addr} {u : Value} {Q : Bool → Shared → Prop} (hne : u ≠ .ref a) (h : wpAny (model prog w) A (richCompare .Eq u (.ref a)) (fun v s' => ∃ r, v = .bool r ∧ Q r s') E s) : wpAny (model prog w) A (eqBool u (.ref a)) Q E s := by
  unfold eqBool
  refine wpAny_holding ?_
  refine wpAny_ite_split (fun hab => absurd (eq_of_beq hab) hne) (fun _ => ?_)
  cases u <;>
  · refine wpAny_bind (wpAny_mono h (fun v s' hv => ?_) fun _ _ x => x)
    obtain ⟨r, rfl, q⟩ := hv
    exact wpAny_truthy_bool q
end
theorem rel_ne {y : V} {v : Value} {a : Addr} (r : RelV y v) (h : y ≠ .ref a) : v ≠ .ref a := fun z => by
  subst z
  cases y with
  | ref c =>
    have e : Value.ref a = Value.ref c := r
    injection e with e
    exact h (by rw [e])
  | non => cases (show Value.ref a = Value.none from r)
  | bl b => cases (show Value.ref a = Value.bool b from r)
  | int i => obtain ⟨t, e⟩ := (show ∃ t, Value.ref a = Value.int i t from r); cases e
  | str i => obtain ⟨t, e⟩ := (show ∃ t, Value.ref a = Value.str i t from r); cases e
  | byt i => obtain ⟨t, e⟩ := (show ∃ t, Value.ref a = Value.bytes i t from r); cases e
  | flt i => obtain ⟨t, e⟩ := (show ∃ t, Value.ref a = Value.float i t from r); cases e
  | ty i => cases (show Value.ref a = Value.type i from r)
section
variable {X : Cx} {C f : Addr} {fd : FuncData} {ps : List Str} {n : Nat} {E : XK} {CX : CXT} {R : Addr → V → Bool → Hp → Prop}
/-- == of an own instance with anything, as a rich comparison -/
theorem rcB_left (F : FnOk X.prog X.w X.K X.mg X.base CX n f fd ps (spO R)) (O : OwnE X.K C f) (hb : Binds X.K fd ps []) (hx : Passes CX X E) {A : Around} {pins : List (Addr × Obj)} {s : Shared} {σ : L2.St} {H : Hp} {a dx : Addr} {fs : List (Str × V)} {y : V} {v tb : Value} {b : Bool}
    (sb : Sub X n A) (I : Inv X pins σ H s) (ry : RelV y v) (h : H a = some (.ins C dx fs)) (ty : TyX X.K H y tb) (nf : PySem.W.notFirst X.K C tb = true) (r : R a y b H) :
    wpAny (model X.prog X.w) A (richCompare .Eq (.ref a) v) (fun w s' => w = .bool b ∧ ∃ H', Inv X pins σ H' s' ∧ Ext H H') X.xe s := by
  obtain ⟨P, Z, p, hv⟩ := kit_of I ry ty
  obtain ⟨mA, J, _⟩ := ins_get I.hok h
  obtain ⟨od, J, _⟩ := J.look
  obtain ⟨m, hF⟩ := I.fr
  have hsp : spO R [.ref a, y] H (fun v H' => ∃ r, v = .bl r ∧ (r = b ∧ Ext H H')) E := ⟨a, y, b, rfl, r, fun H' e => ⟨b, rfl, rfl, e⟩⟩
  refine PySem.W.cmp_K (op := .Eq) sb.room.units0 hF I.ok.mod.kin J (Z.ty _ _ I.kIn p) nf O.eq O.fn ?_
  refine wpAny_mono (own_callee (Q := fun r H' => r = b ∧ Ext H H') F hb hx sb.room sb.fr I (x := .ref a) rfl ry hsp) (fun w s' k => ?_) fun _ _ k => k
  obtain ⟨r, rfl, H', I', rfl, e⟩ := k
  exact ⟨rfl, H', I', e⟩
theorem rcB_right (F : FnOk X.prog X.w X.K X.mg X.base CX n f fd ps (spO R)) (O : OwnE X.K C f) (hb : Binds X.K fd ps []) (hx : Passes CX X E) {A : Around} {pins : List (Addr × Obj)} {s : Shared} {σ : L2.St} {H : Hp} {a dx : Addr} {fs : List (Str × V)} {x : V} {u : Value} {b : Bool} {T : String}
    (sb : Sub X n A) (I : Inv X pins σ H s) (rx : RelV x u) (h : H a = some (.ins C dx fs)) (ty : BackV X.K H x T) (hs : PySem.W.subIn X.K (.ref C) (.type T) = some false) (r : R a x b H) :
    wpAny (model X.prog X.w) A (richCompare .Eq u (.ref a)) (fun w s' => w = .bool b ∧ ∃ H', Inv X pins σ H' s' ∧ Ext H H') X.xe s := by
  obtain ⟨mA, J0, _⟩ := ins_get I.hok h
  obtain ⟨od, J, _⟩ := J0.look
  obtain ⟨m, hF⟩ := I.fr
  have hget := J.1
  have sub : PySem.W.Looks (model X.prog X.w) s.heap (isInstance (.ref a) (.type T)) false := J.type.andThen (PySem.W.looks_subIn I.kIn hs)
  have hsp : spO R [.ref a, x] H (fun v H' => ∃ r, v = .bl r ∧ (r = b ∧ Ext H H')) E := ⟨a, x, b, rfl, r, fun H' e => ⟨b, rfl, rfl, e⟩⟩
  have fin : wpAny (model X.prog X.w) A (call (.ref f) [.ref a, u]) (PySem.W.CmpBack fun w s' => w = .bool b ∧ ∃ H', Inv X pins σ H' s' ∧ Ext H H') X.xe s := by
    refine wpAny_mono (own_callee (Q := fun r H' => r = b ∧ Ext H H') F hb hx sb.room sb.fr I (x := .ref a) rfl rx hsp) (fun w s' k => ?_) fun _ _ k => k
    obtain ⟨r, rfl, H', I', rfl, e⟩ := k
    exact ⟨rfl, H', I', e⟩
  cases ty with
  | non =>
    cases (show u = Value.none from rx)
    exact rc_back sb.room.units0 hF I.ok.mod.kin (typeIs_none s) PySem.F.slot_NoneType_eq J hs rfl (dec_non hget) O.eq O.fn fin
  | bl y =>
    cases (show u = Value.bool y from rx)
    exact rc_back sb.room.units0 hF I.ok.mod.kin (PySem.typeIs_bool s y) PySem.F.slot_bool_eq J hs rfl (dec_bool hget) O.eq O.fn fin
  | int i =>
    obtain ⟨t, rfl⟩ := (show ∃ t, u = Value.int i t from rx)
    exact rc_back sb.room.units0 hF I.ok.mod.kin (typeIs_int s i t) PySem.F.slot_int_eq J hs rfl (dec_int hget) O.eq O.fn fin
  | str y =>
    obtain ⟨t, rfl⟩ := (show ∃ t, u = Value.str y t from rx)
    exact rc_back sb.room.units0 hF I.ok.mod.kin (typeIs_str s y t) PySem.F.slot_str_eq J hs rfl (dec_str hget) O.eq O.fn fin
  | @tup c xs h2 =>
    cases (show u = Value.ref c from rx)
    obtain ⟨its, rv, ⟨o, ho, hc, _⟩, _⟩ := I.tuple h2
    exact rc_back sb.room.units0 hF I.ok.mod.kin ⟨o, ho, hc⟩ PySem.F.slot_tuple_eq J hs rfl (dec_tup ⟨o, ho, hc⟩ sub) O.eq O.fn fin
  | @lst c xs h2 =>
    cases (show u = Value.ref c from rx)
    obtain ⟨its, rv, ⟨o, n, ho, hc, _⟩, _⟩ := I.list (SqL.of h2 : SqL X.K H c xs)
    exact rc_back sb.room.units0 hF I.ok.mod.kin ⟨o, ho, hc⟩ PySem.F.slot_list_eq J hs rfl (dec_lst ⟨o, ho, hc⟩ sub) O.eq O.fn fin
  | @dK c kvs h2 =>
    cases (show u = Value.ref c from rx)
    obtain ⟨_, _, vs, _, o, es, ep, h1, h2', _⟩ := (show ObjOk X.prog X.w H s.heap c (.dK kvs) from I.hok c _ h2)
    exact rc_back sb.room.units0 hF I.ok.mod.kin ⟨o, h1, h2'.1⟩ PySem.F.slot_dict_eq J hs rfl (dec_dict ⟨o, h1, h2'.1⟩ sub) O.eq O.fn fin
theorem eqB_ow (F : FnOk X.prog X.w X.K X.mg X.base CX n f fd ps (spO R)) (O : OwnE X.K C f) (hb : Binds X.K fd ps []) (hx : Passes CX X E) : EqB X n (DOw X.K C R) := by
  intro A pins s σ H x y u v b sb I rx ry d
  have bk : ∀ {t : Sem Value}, wpAny (model X.prog X.w) A t (fun w s' => w = .bool b ∧ ∃ H', Inv X pins σ H' s' ∧ Ext H H') X.xe s → wpAny (model X.prog X.w) A t (fun v s' => ∃ r, v = .bool r ∧ (r = b ∧ ∃ H', Inv X pins σ H' s' ∧ Ext H H')) X.xe s := fun {t} h =>
    wpAny_mono h (fun w s' q => ⟨b, q.1, rfl, q.2⟩) fun _ _ e => e
  cases d with
  | same =>
    cases (show u = Value.ref _ from rx)
    cases (show v = Value.ref _ from ry)
    exact SeqAt.EqAt.same (A := A) (s := s) (.ref _) X.prog X.w X.xe _ ⟨rfl, H, I, Ext.rfl'⟩
  | @left a dx fs _ _ tb _ h ty nf ne r =>
    cases (show u = Value.ref a from rx)
    exact eqBool_left (rel_ne ry ne) (bk (rcB_left F O hb hx sb I ry h ty nf r))
  | @right a dx fs _ _ T _ h ty hs ne r =>
    cases (show v = Value.ref a from ry)
    exact eqBool_right (rel_ne rx ne) (bk (rcB_right F O hb hx sb I rx h ty hs r))
  | flat hx hy => exact eqAt_V rx ry hx hy X.prog X.w X.xe _ ⟨rfl, H, I, Ext.rfl'⟩
/-- x == y with an own instance on either side -/
def rEqO (K : PySem.W.Frag) (C : Addr) (R : Addr → V → Bool → Hp → Prop) (g : Bool → Bool) : R2 := fun x y H Q => ∃ b, ((∃ a dx fs tb, x = .ref a ∧ H a = some (.ins C dx fs) ∧ TyX K H y tb ∧ PySem.W.notFirst K C tb = true ∧ R a y b H) ∨
  (∃ a dx fs T, y = .ref a ∧ H a = some (.ins C dx fs) ∧ BackV K H x T ∧ PySem.W.subIn K (.ref C) (.type T) = some false ∧ R a x b H)) ∧ ∀ H', Ext H H' → Q (.bl (g b)) H'
theorem op_eqO (F : FnOk X.prog X.w X.K X.mg X.base CX n f fd ps (spO R)) (O : OwnE X.K C f) (hb : Binds X.K fd ps []) (hx : Passes CX X E) (hr : Room n X.A) : OpR X (compareOp .Eq) (rEqO X.K C R id) := by
  intro pins s σ H x y u v Q I rx ry hq
  obtain ⟨b, h, q⟩ := hq
  show wpAny (model X.prog X.w) X.A (richCompare .Eq u v) (EP X pins σ Q) X.xe s
  rcases h with ⟨a, dx, fs, tb, rfl, ha, ty, nf, r⟩ | ⟨a, dx, fs, T, rfl, ha, ty, hs, r⟩
  · cases (show u = Value.ref a from rx)
    refine wpAny_mono (rcB_left F O hb hx ⟨hr, rfl⟩ I ry ha ty nf r) (fun w s' k => ?_) fun _ _ e => e
    obtain ⟨rfl, H', I', e⟩ := k
    exact ⟨.bl b, H', I', rfl, q H' e⟩
  · cases (show v = Value.ref a from ry)
    refine wpAny_mono (rcB_right F O hb hx ⟨hr, rfl⟩ I rx ha ty hs r) (fun w s' k => ?_) fun _ _ e => e
    obtain ⟨rfl, H', I', e⟩ := k
    exact ⟨.bl b, H', I', rfl, q H' e⟩
end

/-! ### rows -/
section
variable {X : Cx} {n : Nat} {D : Eqb}
def LoopJ (X : Cx) (pins : List (Addr × Obj)) (σ : L2.St) (H : Hp) (s' : Shared) : Prop := ∃ H', Inv X pins σ H' s' ∧ Ext H H'
theorem rowB (hD : MonB D) (h : EqB X n D) {A : Around} (sb : Sub X (n + 1) A) {pins : List (Addr × Obj)} {σ : L2.St} {H : Hp} {l : Addr} {xs : List V} {y : V} {v : Value} {e : Nat → Bool} (ry : RelV y v) (hl : H l = some (.lst xs)) (hd : ∀ i x, xs[i]? = some x → D x y (e i) H) :
    RowI X.prog X.w A X.xe l v xs.length e (fun _ s' => LoopJ X pins σ H s') := by
  rintro i s ⟨H1, I1, e1⟩
  obtain ⟨z, its, k, r, ho⟩ := I1.hok l _ (e1 _ _ hl)
  refine ⟨its.toArray, k, ho, by rw [List.size_toArray, ← r.length], fun h1 => ?_⟩
  have h1' : i < its.length := by simpa using h1
  have k1 : i < xs.length := by rw [r.length]; exact h1'
  obtain ⟨u, hu, ru⟩ := r.get (List.getElem?_eq_getElem k1)
  have g1 : its[i]? = some its.toArray[i] := by rw [List.getElem?_eq_getElem h1'] <;> simp
  rw [g1] at hu
  rw [Option.some.inj hu]
  refine wpAny_mono (h A.in1 pins s σ H1 _ y u v (e i) sb.in1 I1 ru ry (hD _ _ _ _ _ e1 (hd i _ (List.getElem?_eq_getElem k1)))) (fun r s2 q => ?_) fun _ _ x => x
  obtain ⟨hr, H2, I2, e2⟩ := q
  exact ⟨hr, H2, I2, e1.trans e2⟩
/-- y in xs, xs a list -/
def rInB (D : Eqb) (g : Bool → Bool) : R2 := fun y x H Q => ∃ (l : Addr) (xs : List V) (e : Nat → Bool), x = .ref l ∧ H l = some (.lst xs) ∧ (∀ i z, xs[i]? = some z → D z y (e i) H) ∧ ∀ H', Ext H H' → Q (.bl (g ((List.range xs.length).any e))) H'
theorem call_contains (hD : MonB D) (h : EqB X n D) (hr : Room (n + 1) X.A) {pins : List (Addr × Obj)} {s : Shared} {σ : L2.St} {H : Hp} {l : Addr} {xs : List V} {y : V} {v : Value} {e : Nat → Bool} {Q : Value → Shared → Prop} (I : Inv X pins σ H s) (ry : RelV y v) (hl : H l = some (.lst xs))
    (hd : ∀ i x, xs[i]? = some x → D x y (e i) H) (hQ : ∀ H' s', Inv X pins σ H' s' → Ext H H' → Q (.bool ((List.range xs.length).any e)) s') : wpAny (model X.prog X.w) X.A (call (.builtin "list.__contains__") [.ref l, v]) Q X.xe s := by
  obtain ⟨z, its, k, r, ho⟩ := I.hok l _ hl
  refine GQ.call_here PySem.F.slot_list_contains ⟨_, ho, rfl⟩ PySem.F.entry_list_contains (PySem.F.args_list_contains_2 _ _) ?_
  refine list_containsG (R := wants Q X.xe) l v xs.length e (fun _ s' => LoopJ X pins σ H s') (rowB hD h ⟨hr, rfl⟩ ry hl hd) (fun i s' q => ?_) ⟨H, I, Ext.rfl'⟩
  obtain ⟨H', I', e'⟩ := q
  exact hQ H' s' I' e'
theorem op_inB (hD : MonB D) (h : EqB X n D) (hr : Room (n + 1) X.A) : OpR X (compareOp .In) (rInB D id) := by
  intro pins s σ H y x v u Q I ry rx hq
  obtain ⟨l, xs, e, rfl, hl, hd, q⟩ := hq
  cases (show u = Value.ref l from rx)
  obtain ⟨z, its, k, r, ho⟩ := I.hok l _ hl
  show wpAny (model X.prog X.w) X.A (do return Value.bool (← contains (.ref l) v)) (EP X pins σ Q) X.xe s
  refine wpAny_bind (PySem.wpAny_contains_slot ⟨_, ho, rfl⟩ PySem.F.slot_list_contains (call_contains hD h hr I ry hl hd fun H' s' I' e' => wpAny_truthy_bool (wpAny_pure ⟨.bl _, H', I', rfl, q H' e'⟩)))
theorem op_notInB (hD : MonB D) (h : EqB X n D) (hr : Room (n + 1) X.A) : OpR X (compareOp .NotIn) (rInB D not) := by
  intro pins s σ H y x v u Q I ry rx hq
  obtain ⟨l, xs, e, rfl, hl, hd, q⟩ := hq
  cases (show u = Value.ref l from rx)
  obtain ⟨z, its, k, r, ho⟩ := I.hok l _ hl
  show wpAny (model X.prog X.w) X.A (do return Value.bool (!(← contains (.ref l) v))) (EP X pins σ Q) X.xe s
  refine wpAny_bind (PySem.wpAny_contains_slot ⟨_, ho, rfl⟩ PySem.F.slot_list_contains (call_contains hD h hr I ry hl hd fun H' s' I' e' => wpAny_truthy_bool (wpAny_pure ⟨.bl _, H', I', rfl, q H' e'⟩)))
/-- xs.count(y) -/
def rCntO (D : Eqb) : V → List V → Hp → VK → Prop := fun x ys H Q => ∃ (l : Addr) (xs : List V) (y : V) (e : Nat → Bool), x = .ref l ∧ ys = [y] ∧ H l = some (.lst xs) ∧ (∀ i z, xs[i]? = some z → D z y (e i) H) ∧ ∀ H', Ext H H' → Q (.int ((List.range xs.length).countP e : Nat)) H'
theorem mt_countO (hD : MonB D) (h : EqB X n D) (hr : Room (n + 1) X.A) : MtR X "list.count" (rCntO D) := by
  intro pins s σ H x ys u us Q I rx rxs hq
  obtain ⟨l, xs, y, e, rfl, rfl, hl, hd, q⟩ := hq
  cases (show u = Value.ref l from rx)
  obtain ⟨v, rfl, rv⟩ := rxs.one
  obtain ⟨z, its, k, r, ho⟩ := I.hok l _ hl
  refine GQ.call_here PySem.F.slot_list_count ⟨_, ho, rfl⟩ PySem.F.entry_list_count (PySem.F.args_list_count_2 _ _) ?_
  refine list_countG (R := wants (EP X pins σ Q) X.xe) l v xs.length e (fun _ s' => LoopJ X pins σ H s') (rowB hD h ⟨hr, rfl⟩ rv hl hd) (fun s' q' => ?_) ⟨H, I, Ext.rfl'⟩
  obtain ⟨H', I', e'⟩ := q'
  exact ⟨.int _, H', I'.tok _, ⟨s'.toks, rfl⟩, q H' e'⟩
/-- two tuples of one length -/
def rEqTB (K : PySem.W.Frag) (D : Eqb) : R2 := fun x y H Q => ∃ (a b : Addr) (xs ys : List V) (e : Nat → Bool), x = .ref a ∧ y = .ref b ∧ SqT K H a xs ∧ SqT K H b ys ∧ xs.length = ys.length ∧ (∀ i p q, xs[i]? = some p → ys[i]? = some q → D p q (e i) H) ∧
  ∀ H', Ext H H' → Q (.bl ((List.range xs.length).all e)) H'
theorem op_eqTB (hD : MonB D) (h : EqB X n D) (hr : Room (n + 1) X.A) : OpR X (compareOp .Eq) (rEqTB X.K D) := by
  intro pins s σ H x y u v Q I rx ry hq
  obtain ⟨a, b, xs, ys, e, rfl, rfl, ha, hb, hl, hd, q⟩ := hq
  cases (show u = Value.ref a from rx)
  cases (show v = Value.ref b from ry)
  show wpAny (model X.prog X.w) X.A (richCompare .Eq (.ref a) (.ref b)) (EP X pins σ Q) X.xe s
  obtain ⟨its, r, ⟨⟨cls, dd, data, sl⟩, ho, hc, k1, hd1⟩, _⟩ := I.tuple ha
  obtain ⟨its2, r2, ⟨⟨cls2, dd2, data2, sl2⟩, ho2, hc2, k2, hd2⟩, _⟩ := I.tuple hb
  simp only at hc hd1 hc2 hd2
  subst hc hd1 hc2 hd2
  have hsz : its.toArray.size = its2.toArray.size := by rw [List.size_toArray, List.size_toArray, ← r.length, ← r2.length]; exact hl
  have hN : its.toArray.size = xs.length := by rw [List.size_toArray, ← r.length]
  refine wpAny_richCompare_same_room (op := .Eq) ⟨_, ho, rfl⟩ ⟨_, ho2, rfl⟩ PySem.F.slot_tuple_eq (GQ.call_here PySem.F.slot_tuple_eq ⟨_, ho, rfl⟩ PySem.F.entry_tuple_eq (PySem.F.args_tuple_eq_2 _ _) ?_) hr.units0
  refine tuple_eqG2 (R := wants (fun v s' => v ≠ .notImplemented ∧ EP X pins σ Q v s') X.xe) a b its.toArray its2.toArray k1 k2 dd dd2 sl sl2 hsz e (fun _ s' => LoopJ X pins σ H s') (fun i h1 h2 s' l => ?_) (fun i s' l => ?_) ho ho2 ⟨H, I, Ext.rfl'⟩
  · obtain ⟨H1, I1, e1⟩ := l
    have h1' : i < its.length := by simpa using h1
    have h2' : i < its2.length := by simpa using h2
    have q1 : i < xs.length := by rw [r.length]; exact h1'
    have q2 : i < ys.length := by rw [r2.length]; exact h2'
    obtain ⟨u, hu, ru⟩ := r.get (List.getElem?_eq_getElem q1)
    obtain ⟨v, hv, rv⟩ := r2.get (List.getElem?_eq_getElem q2)
    have g1 : its[i]? = some its.toArray[i] := by rw [List.getElem?_eq_getElem h1'] <;> simp
    have g2 : its2[i]? = some its2.toArray[i] := by rw [List.getElem?_eq_getElem h2'] <;> simp
    rw [g1] at hu
    rw [g2] at hv
    rw [Option.some.inj hu, Option.some.inj hv]
    refine wpAny_mono (h X.A.in1 pins s' σ H1 _ _ u v (e i) (Sub.in1 ⟨hr, rfl⟩) I1 ru rv (hD _ _ _ _ _ e1 (hd i _ _ (List.getElem?_eq_getElem q1) (List.getElem?_eq_getElem q2)))) (fun r s2 q => ?_) fun _ _ x => x
    obtain ⟨hr', H2, I2, e2⟩ := q
    exact ⟨hr', H2, I2, e1.trans e2⟩
  · obtain ⟨H1, I1, e1⟩ := l
    rw [hN]
    exact ⟨(fun x => nomatch x), .bl _, H1, I1, rfl, q H1 e1⟩
end
end Rp
/-! != with the own instance on the right; in a tuple whose items' == may answer either way -/
namespace Rp
open PySem PySem.Spec PyProof.Rows L2
open PySem.AutoSeq1 (wpAny_loadPart')
section
variable {prog : Program} {w : World} {A : Around} {E : Value → Shared → Prop} {s : Shared} {K : PySem.W.Frag} {x C L f : Addr} {h₀ : Heap} {m : Str → Option Value} {dx : Addr} {od : Option Obj}
open PySem.W Builtin in
/-- the built-in type declines != -/
theorem rc_backN {u : Value} {T id : String} {Q : Value → Shared → Prop} (hu : A.units + 1 < cLine) (FR : Fr h₀ L s.heap m) (X₀ : K.In h₀) (hT : s.TypeIs u T) (slot : Slot T "__ne__" id) (I : InstAt s.heap x (instObj C dx) C od) (hsub : subIn K (.ref C) (.type T) = some false)
    (hone : oneThing? .NotEq u (.ref x) = none) (dec : wpAny (model prog w) A (call (.builtin id) [u, .ref x]) (fun v s' => v = .notImplemented ∧ s' = s) E s)
    (hne : findIn K (.ref C) "__ne__" = some (some (.builtin "object.__ne__"))) (hm : mroIn K C (.type "object") = some true)
    (hs : findIn K (.ref C) "__eq__" = some (some (.ref f))) (hf : isFn K (.ref f) = true)
    (h : wpAny (model prog w) A.in1 (call (.ref f) [.ref x, u]) (fun v s' => ∃ r, v = .bool r ∧ Q (.bool (!r)) s') E s) : wpAny (model prog w) A (richCompare .NotEq u (.ref x)) Q E s := by
  have X := X₀.keeps FR.keep
  have hu1 : A.in1.units < cLine := hu
  have sub : Looks (model prog w) s.heap (isInstance (.ref x) (.type "object")) true := I.type.andThen (looks_mroIn X hm)
  have S := PySem.F.cmp_object.ne
  have one : wpAny (model prog w) A (tryCompare (.ref x) "__ne__" u) (fun r s' => ∃ v, r = some v ∧ Q v s') E s := by
    unfold tryCompare
    have body : wpAny (model prog w) A (call (.builtin "object.__ne__") [.ref x, u]) (fun v s' => ∃ r, v = .bool r ∧ Q (.bool r) s') E s := by
      obtain ⟨hp, g, d, t, os⟩ := s
      refine wpAny_call (codeAny_call_builtin S.plain PySem.F.cmpEntry_ne (@check_slot (model prog w) _ _ ⟨hp, g, d, t, os⟩ "object.__ne__" "object" "__ne__" (.ref x) [u] [] _ PySem.F.cmpKind_ne PySem.F.cmpSplit_ne sub (PySem.F.cmpArgs_ne _ _) ?_))
      unfold Builtin.«object.__ne__»
      refine wpAny_bind (wpAny_of_eq (a := ((Value.ref x : Value), [u])) (by first | rfl | (simp only [Builtin.slotArgs]; rfl)) ?_)
      refine wpAny_bind (wpAny_cRoomFor hu1 ?_)
      refine wpAny_bind (ifBound_K X I hs hf (wpAny_mono h (fun v s' hv => ?_) fun _ _ e => e))
      obtain ⟨r, rfl, q⟩ := hv
      exact wpAny_bind (wpAny_truthy_bool (wpAny_pure ⟨!r, rfl, q⟩))
    have bound : wpAny (model prog w) A (callSpecialIfBound? (.ref x) "__ne__" [u]) (fun o s' => ∃ r, o = some (.bool r) ∧ Q (.bool r) s') E s := by
      simp only [callSpecialIfBound?, bindSpecialIfBound?]
      refine wpAny_holding (wpAny_bind (wpAny_bind (wpAny_bind (I.type.here ((looks_findIn X hne).here ?_)))))
      simp only [S.bind]
      refine wpAny_bind (wpAny_askSetting (wpAny_ite ?_))
      have fin : wpAny (model prog w) A (call (.builtin "object.__ne__") ([.ref x] ++ [u]) >>= fun v => pure (some v)) (fun o s' => ∃ r, o = some (.bool r) ∧ Q (.bool r) s') E s :=
        wpAny_bind (wpAny_mono body (fun v s' h' => by
          obtain ⟨r, rfl, q⟩ := h'
          exact wpAny_pure ⟨r, rfl, q⟩) fun _ _ h' => h')
      split
      · exact wpAny_bind (wpAny_pure (wpAny_pure fin))
      · exact wpAny_tryCatch (wpAny_bind (wpAny_pure (wpAny_pure fin)))
    refine wpAny_bind (wpAny_mono bound (fun v s' hv => ?_) fun _ _ e => e)
    obtain ⟨r, rfl, q⟩ := hv
    exact wpAny_pure ⟨_, rfl, q⟩
  have hne2 : (Value.type T != Value.ref C) = true := by simp
  unfold richCompare
  rw [hone]
  refine wpAny_holding (wpAny_bind (wpAny_cRoomFor (Nat.lt_of_succ_lt hu) ?_))
  refine wpAny_bind (wpAny_typeOf hT (wpAny_bind (I.type.here ?_)))
  rw [hne2]
  refine wpAny_bind ((looks_subIn X hsub).here ?_)
  simp only [Bool.false_eq_true, if_false, Bool.not_false, if_true]
  refine wpAny_bind (m := tryCompare u _ (.ref x)) (wpAny_tryCompare_declines hT slot (wpAny_mono dec (fun v s₁ h₁ => ⟨h₁.1, ?_⟩) fun _ _ x => x))
  obtain ⟨_, rfl⟩ := h₁
  refine wpAny_bind (wpAny_mono one (fun r s' z => ?_) fun _ _ e => e)
  obtain ⟨v, rfl, hq⟩ := z
  exact wpAny_pure hq
open PySem.W Builtin in
theorem decN_non (hx : s.heap.get? x = some (instObj C dx)) : wpAny (model prog w) A (call (.builtin "NoneType.__ne__") [.none, .ref x]) (fun v s' => v = .notImplemented ∧ s' = s) E s := by
  refine wpAny_call_entry PySem.F.slot_NoneType_ne (typeIs_none s) PySem.F.entry_NoneType_ne ?_ (PySem.F.args_NoneType_ne_2 _ _)
  obtain ⟨hp, g, d, tk, os⟩ := s
  wp_walk using wpAny_loadPart' hx
  exact ⟨_, rfl, rfl, rfl⟩
open PySem.W Builtin in
theorem decN_int {i : Int} {t : Tok} (hx : s.heap.get? x = some (instObj C dx)) : wpAny (model prog w) A (call (.builtin "int.__ne__") [.int i t, .ref x]) (fun v s' => v = .notImplemented ∧ s' = s) E s := by
  refine wpAny_call_entry PySem.F.slot_int_ne (typeIs_int s i t) PySem.F.entry_int_ne ?_ (PySem.F.args_int_ne_2 _ _)
  obtain ⟨hp, g, d, tk, os⟩ := s
  wp_walk using wpAny_loadPart' hx
  exact ⟨_, rfl, rfl, rfl⟩
open PySem.W Builtin in
theorem decN_bool {b : Bool} (hx : s.heap.get? x = some (instObj C dx)) : wpAny (model prog w) A (call (.builtin "int.__ne__") [.bool b, .ref x]) (fun v s' => v = .notImplemented ∧ s' = s) E s := by
  refine wpAny_call_entry PySem.F.slot_bool_ne (PySem.typeIs_bool s b) PySem.F.entry_int_ne ?_ (PySem.F.args_int_ne_2 _ _)
  obtain ⟨hp, g, d, tk, os⟩ := s
  wp_walk using wpAny_loadPart' hx
  exact ⟨_, rfl, rfl, rfl⟩
open PySem.W Builtin in
theorem decN_str {y : Str} {t : Tok} (hx : s.heap.get? x = some (instObj C dx)) : wpAny (model prog w) A (call (.builtin "str.__ne__") [.str y t, .ref x]) (fun v s' => v = .notImplemented ∧ s' = s) E s := by
  refine wpAny_call_entry PySem.F.slot_str_ne (typeIs_str s y t) PySem.F.entry_str_ne ?_ (PySem.F.args_str_ne_2 _ _)
  obtain ⟨hp, g, d, tk, os⟩ := s
  wp_walk using wpAny_loadPart' hx
  exact ⟨_, rfl, rfl, rfl⟩
open PySem.W Builtin in
theorem decN_tup {a : Addr} (hT : s.TypeIs (.ref a) "tuple") (hi : Looks (model prog w) s.heap (isInstance (.ref x) (.type "tuple")) false) : wpAny (model prog w) A (call (.builtin "tuple.__ne__") [.ref a, .ref x]) (fun v s' => v = .notImplemented ∧ s' = s) E s := by
  refine wpAny_call_entry PySem.F.slot_tuple_ne hT PySem.F.entry_tuple_ne ?_ (PySem.F.args_tuple_ne_2 _ _)
  obtain ⟨hp, g, d, tk, os⟩ := s
  wp_walk using PySem.W.Looks.here hi
  exact ⟨_, rfl, rfl, rfl⟩
open PySem.W Builtin in
theorem decN_lst {a : Addr} (hT : s.TypeIs (.ref a) "list") (hi : Looks (model prog w) s.heap (isInstance (.ref x) (.type "list")) false) : wpAny (model prog w) A (call (.builtin "list.__ne__") [.ref a, .ref x]) (fun v s' => v = .notImplemented ∧ s' = s) E s := by
  refine wpAny_call_entry PySem.F.slot_list_ne hT PySem.F.entry_list_ne ?_ (PySem.F.args_list_ne_2 _ _)
  obtain ⟨hp, g, d, tk, os⟩ := s
  wp_walk using PySem.W.Looks.here hi
  exact ⟨_, rfl, rfl, rfl⟩
open PySem.W Builtin in
theorem decN_dict {a : Addr} (hT : s.TypeIs (.ref a) "dict") (hi : Looks (model prog w) s.heap (isInstance (.ref x) (.type "dict")) false) : wpAny (model prog w) A (call (.builtin "dict.__ne__") [.ref a, .ref x]) (fun v s' => v = .notImplemented ∧ s' = s) E s := by
  refine wpAny_call_entry PySem.F.slot_dict_ne hT PySem.F.entry_dict_ne ?_ (PySem.F.args_dict_ne_2 _ _)
  obtain ⟨hp, g, d, tk, os⟩ := s
  wp_walk using PySem.W.Looks.here hi
  exact ⟨_, rfl, rfl, rfl⟩
end
section
variable {X : Cx} {C f : Addr} {fd : FuncData} {ps : List Str} {n : Nat} {E : XK} {CX : CXT} {R : Addr → V → Bool → Hp → Prop}
theorem rcN_left (F : FnOk X.prog X.w X.K X.mg X.base CX n f fd ps (spO R)) (O : OwnE X.K C f) (hb : Binds X.K fd ps []) (hx : Passes CX X E) {A : Around} {pins : List (Addr × Obj)} {s : Shared} {σ : L2.St} {H : Hp} {a dx : Addr} {fs : List (Str × V)} {y : V} {v tb : Value} {b : Bool}
    (sb : Sub X (n + 1) A) (I : Inv X pins σ H s) (ry : RelV y v) (h : H a = some (.ins C dx fs)) (ty : TyX X.K H y tb) (nf : PySem.W.notFirst X.K C tb = true) (r : R a y b H) :
    wpAny (model X.prog X.w) A (richCompare .NotEq (.ref a) v) (fun w s' => w = .bool (!b) ∧ ∃ H', Inv X pins σ H' s' ∧ Ext H H') X.xe s := by
  obtain ⟨P, Z, p, hv⟩ := kit_of I ry ty
  obtain ⟨mA, J, _⟩ := ins_get I.hok h
  obtain ⟨od, J, _⟩ := J.look
  obtain ⟨m, hF⟩ := I.fr
  have hsp : spO R [.ref a, y] H (fun v H' => ∃ r, v = .bl r ∧ (r = b ∧ Ext H H')) E := ⟨a, y, b, rfl, r, fun H' e => ⟨b, rfl, rfl, e⟩⟩
  refine ne_K (by have := sb.room.un; omega) hF I.ok.mod.kin J (Z.ty _ _ I.kIn p) nf O.ne O.mro O.eq O.fn ?_
  refine wpAny_mono (own_callee (Q := fun r H' => r = b ∧ Ext H H') F hb hx sb.in1.room sb.in1.fr I (x := .ref a) rfl ry hsp) (fun w s' k => ?_) fun _ _ k => k
  obtain ⟨r, rfl, H', I', rfl, e⟩ := k
  exact ⟨_, rfl, rfl, H', I', e⟩
theorem rcN_right (F : FnOk X.prog X.w X.K X.mg X.base CX n f fd ps (spO R)) (O : OwnE X.K C f) (hb : Binds X.K fd ps []) (hx : Passes CX X E) {A : Around} {pins : List (Addr × Obj)} {s : Shared} {σ : L2.St} {H : Hp} {a dx : Addr} {fs : List (Str × V)} {x : V} {u : Value} {b : Bool} {T : String}
    (sb : Sub X (n + 1) A) (I : Inv X pins σ H s) (rx : RelV x u) (h : H a = some (.ins C dx fs)) (ty : BackV X.K H x T) (hs : PySem.W.subIn X.K (.ref C) (.type T) = some false) (r : R a x b H) :
    wpAny (model X.prog X.w) A (richCompare .NotEq u (.ref a)) (fun w s' => w = .bool (!b) ∧ ∃ H', Inv X pins σ H' s' ∧ Ext H H') X.xe s := by
  obtain ⟨mA, J0, _⟩ := ins_get I.hok h
  obtain ⟨od, J, _⟩ := J0.look
  obtain ⟨m, hF⟩ := I.fr
  have hget := J.1
  have hu : A.units + 1 < cLine := by have := sb.room.un; omega
  have sub : PySem.W.Looks (model X.prog X.w) s.heap (isInstance (.ref a) (.type T)) false := J.type.andThen (PySem.W.looks_subIn I.kIn hs)
  have hsp : spO R [.ref a, x] H (fun v H' => ∃ r, v = .bl r ∧ (r = b ∧ Ext H H')) E := ⟨a, x, b, rfl, r, fun H' e => ⟨b, rfl, rfl, e⟩⟩
  have fin : wpAny (model X.prog X.w) A.in1 (call (.ref f) [.ref a, u]) (fun v s' => ∃ r, v = .bool r ∧ (Value.bool (!r) = .bool (!b) ∧ ∃ H', Inv X pins σ H' s' ∧ Ext H H')) X.xe s := by
    refine wpAny_mono (own_callee (Q := fun r H' => r = b ∧ Ext H H') F hb hx sb.in1.room sb.in1.fr I (x := .ref a) rfl rx hsp) (fun w s' k => ?_) fun _ _ k => k
    obtain ⟨r, rfl, H', I', rfl, e⟩ := k
    exact ⟨_, rfl, rfl, H', I', e⟩
  cases ty with
  | non =>
    cases (show u = Value.none from rx)
    exact rc_backN hu hF I.ok.mod.kin (typeIs_none s) PySem.F.slot_NoneType_ne J hs rfl (decN_non hget) O.ne O.mro O.eq O.fn fin
  | bl y =>
    cases (show u = Value.bool y from rx)
    exact rc_backN hu hF I.ok.mod.kin (PySem.typeIs_bool s y) PySem.F.slot_bool_ne J hs rfl (decN_bool hget) O.ne O.mro O.eq O.fn fin
  | int i =>
    obtain ⟨t, rfl⟩ := (show ∃ t, u = Value.int i t from rx)
    exact rc_backN hu hF I.ok.mod.kin (typeIs_int s i t) PySem.F.slot_int_ne J hs rfl (decN_int hget) O.ne O.mro O.eq O.fn fin
  | str y =>
    obtain ⟨t, rfl⟩ := (show ∃ t, u = Value.str y t from rx)
    exact rc_backN hu hF I.ok.mod.kin (typeIs_str s y t) PySem.F.slot_str_ne J hs rfl (decN_str hget) O.ne O.mro O.eq O.fn fin
  | @tup c xs h2 =>
    cases (show u = Value.ref c from rx)
    obtain ⟨its, rv, ⟨o, ho, hc, _⟩, _⟩ := I.tuple h2
    exact rc_backN hu hF I.ok.mod.kin ⟨o, ho, hc⟩ PySem.F.slot_tuple_ne J hs rfl (decN_tup ⟨o, ho, hc⟩ sub) O.ne O.mro O.eq O.fn fin
  | @lst c xs h2 =>
    cases (show u = Value.ref c from rx)
    obtain ⟨its, rv, ⟨o, n, ho, hc, _⟩, _⟩ := I.list (SqL.of h2 : SqL X.K H c xs)
    exact rc_backN hu hF I.ok.mod.kin ⟨o, ho, hc⟩ PySem.F.slot_list_ne J hs rfl (decN_lst ⟨o, ho, hc⟩ sub) O.ne O.mro O.eq O.fn fin
  | @dK c kvs h2 =>
    cases (show u = Value.ref c from rx)
    obtain ⟨_, _, vs, _, o, es, ep, h1, h2', _⟩ := (show ObjOk X.prog X.w H s.heap c (.dK kvs) from I.hok c _ h2)
    exact rc_backN hu hF I.ok.mod.kin ⟨o, h1, h2'.1⟩ PySem.F.slot_dict_ne J hs rfl (decN_dict ⟨o, h1, h2'.1⟩ sub) O.ne O.mro O.eq O.fn fin
/-- x != y with an own instance on either side -/
theorem op_neO (F : FnOk X.prog X.w X.K X.mg X.base CX n f fd ps (spO R)) (O : OwnE X.K C f) (hb : Binds X.K fd ps []) (hx : Passes CX X E) (hr : Room (n + 1) X.A) : OpR X (compareOp .NotEq) (rEqO X.K C R not) := by
  intro pins s σ H x y u v Q I rx ry hq
  obtain ⟨b, h, q⟩ := hq
  show wpAny (model X.prog X.w) X.A (richCompare .NotEq u v) (EP X pins σ Q) X.xe s
  rcases h with ⟨a, dx, fs, tb, rfl, ha, ty, nf, r⟩ | ⟨a, dx, fs, T, rfl, ha, ty, hs, r⟩
  · cases (show u = Value.ref a from rx)
    refine wpAny_mono (rcN_left F O hb hx ⟨hr, rfl⟩ I ry ha ty nf r) (fun w s' k => ?_) fun _ _ e => e
    obtain ⟨rfl, H', I', e⟩ := k
    exact ⟨.bl (!b), H', I', rfl, q H' e⟩
  · cases (show v = Value.ref a from ry)
    refine wpAny_mono (rcN_right F O hb hx ⟨hr, rfl⟩ I rx ha ty hs r) (fun w s' k => ?_) fun _ _ e => e
    obtain ⟨rfl, H', I', e⟩ := k
    exact ⟨.bl (!b), H', I', rfl, q H' e⟩
end
section
open PySem.SeqAt PySem.MeetsSeq PySem.MeetsSeq2 PySem.MeetsSeq3
variable {prog : Program} {w : World} {A : Around} {R : Result → Shared → Prop}
/-- in a tuple: each item's == runs the text -/
theorem tuple_containsG (l : Addr) (items : Array Value) (n : Nat) (dd : Option Addr) (sl : Array (Option Value)) (x : Value) (e : Nat → Bool) (I : Nat → Shared → Prop)
    (turn : ∀ i (h : i < items.toList.length) s, I i s → wpAny (model prog w) A.in1 (eqBool items.toList[i] x) (fun r s' => r = e i ∧ I (i + 1) s') (fun er s' => R (.error er) s') s)
    (fin : ∀ i s, I i s → R (.ok (.ret (.bool ((List.range items.toList.length).any e)))) s) {s : Shared} (ho : s.heap.get? l = some { cls := .type "tuple", dict := dd, data := .seq items n, slots := sl }) (h : I 0 s) :
    wpAny (model prog w) A.in1 (Builtin.«tuple.__contains__» ⟨[.ref l, x], []⟩) (GQ.FinOf prog w A R) (fun e s' => R (.error e) s') s := by
  obtain ⟨hp, g, d, tk, os⟩ := s
  wp_walk using wpAny_loadPart' ho, wpAny_forIn_array _ (fun rest b s' => b.1 = none ∧ ∃ i, rest = items.toList.drop i ∧ I i s' ∧ i ≤ items.toList.length ∧ ∀ j, j < i → e j = false) _
  case turn =>
    rintro y rest b s' ⟨hb, i, hi, hI, il, hj⟩
    have lt : i < items.toList.length := by
      rcases Nat.lt_or_ge i items.toList.length with h | h
      · exact h
      · rw [List.drop_eq_nil_of_le h] at hi
        cases hi
    have e2 := List.drop_eq_getElem_cons lt
    rw [e2] at hi
    injection hi with h1 h2
    subst h1
    refine wpAny_bind (wpAny_mono (turn i lt s' hI) (fun r s2 h3 => ?_) fun _ _ x => x)
    obtain ⟨hr, h4⟩ := h3
    cases r with
    | true =>
      have hany : (List.range items.toList.length).any e = true := List.any_eq_true.mpr ⟨i, List.mem_range.mpr lt, hr.symm⟩
      have hR := fin _ s2 h4
      rw [hany] at hR
      obtain ⟨hp2, g2, d2, tk2, os2⟩ := s2
      wp_walk
      exact hR
    | false =>
      obtain ⟨hp2, g2, d2, tk2, os2⟩ := s2
      wp_walk
      refine ⟨rfl, i + 1, h2, h4, by omega, fun j hj' => ?_⟩
      by_cases z : j = i
      · rw [z]; exact hr.symm
      · exact hj j (by omega)
  case fin =>
    rintro ⟨b1, b2⟩ s' ⟨hb, i, hi, hI, il, hj⟩
    simp only at hb
    subst hb
    have hge : items.toList.length ≤ i := List.drop_eq_nil_iff.mp hi.symm
    have hany : (List.range items.toList.length).any e = false := List.any_eq_false.mpr fun j hm => by
      rw [hj j (by have := List.mem_range.mp hm; omega)]
      exact Bool.false_ne_true
    have hR := fin _ s' hI
    rw [hany] at hR
    obtain ⟨hp2, g2, d2, tk2, os2⟩ := s'
    wp_walk
    exact hR
  case h =>
    exact ⟨rfl, 0, rfl, h, Nat.zero_le _, fun j hj => absurd hj (Nat.not_lt_zero j)⟩
end
section
variable {X : Cx} {n : Nat} {D : Eqb}
/-- y in xs, xs a tuple -/
def rInTB (K : PySem.W.Frag) (D : Eqb) (g : Bool → Bool) : R2 := fun y x H Q => ∃ (l : Addr) (xs : List V) (e : Nat → Bool), x = .ref l ∧ SqT K H l xs ∧ (∀ i z, xs[i]? = some z → D z y (e i) H) ∧ ∀ H', Ext H H' → Q (.bl (g ((List.range xs.length).any e))) H'
theorem op_inTB (hD : MonB D) (h : EqB X n D) (hr : Room (n + 1) X.A) : OpR X (compareOp .In) (rInTB X.K D id) := by
  intro pins s σ H y x v u Q I ry rx hq
  obtain ⟨l, xs, e, rfl, hl, hd, q⟩ := hq
  cases (show u = Value.ref l from rx)
  obtain ⟨its, r, ⟨⟨cls, dd, data, sl⟩, ho, hc, k1, hd1⟩, _⟩ := I.tuple hl
  simp only at hc hd1
  subst hc hd1
  have sb : Sub X (n + 1) X.A := ⟨hr, rfl⟩
  have len : xs.length = its.toArray.toList.length := by rw [r.length]
  show wpAny (model X.prog X.w) X.A (do return Value.bool (← contains (.ref l) v)) (EP X pins σ Q) X.xe s
  refine wpAny_bind (PySem.wpAny_contains_slot ⟨_, ho, rfl⟩ PySem.F.slot_tuple_contains ?_)
  refine GQ.call_here PySem.F.slot_tuple_contains ⟨_, ho, rfl⟩ PySem.F.entry_tuple_contains (PySem.F.args_tuple_contains_2 _ _) ?_
  refine tuple_containsG (R := wants _ X.xe) l its.toArray k1 dd sl v e (fun _ s' => LoopJ X pins σ H s') (fun i h1 s' l' => ?_) (fun i s' q' => ?_) ho ⟨H, I, Ext.rfl'⟩
  · obtain ⟨H1, I1, e1⟩ := l'
    have q1 : i < xs.length := by rw [len]; exact h1
    obtain ⟨u, hu, ru⟩ := r.get (List.getElem?_eq_getElem q1)
    have g1 : its[i]? = some its.toArray.toList[i] := List.getElem?_eq_getElem h1
    rw [g1] at hu
    rw [Option.some.inj hu]
    refine wpAny_mono (h X.A.in1 pins s' σ H1 _ y u v (e i) sb.in1 I1 ru ry (hD _ _ _ _ _ e1 (hd i _ (List.getElem?_eq_getElem q1)))) (fun r s2 q => ?_) fun _ _ x => x
    obtain ⟨hr', H2, I2, e2⟩ := q
    exact ⟨hr', H2, I2, e1.trans e2⟩
  · obtain ⟨H', I', e'⟩ := q'
    rw [← len]
    exact wpAny_truthy_bool (wpAny_pure ⟨.bl _, H', I', rfl, q H' e'⟩)
end
end Rp
namespace K
open PySem L2 Rp
variable [TabT]
/-! ### calls of defs that may raise, over data -/
section
variable {K : PySem.W.Frag} {W : WX} {κ1 κ2 : Nat}
def dCallX (π : List D → (D → Prop) → XDf → Prop) (r : TDA) : XDs → TDE := fun Xd δ Q => r δ fun xs => match allD xs with
  | some ds => π ds (fun d => Q (.d d)) fun S fs => Xd S fs δ
  | none => False
/-- f(..) may raise -/
theorem sex_callS {π : List D → (D → Prop) → XDf → Prop} {t : TA} {r : TDA} {c : Nat} (h : SA K κ2 t r) : SEX K W (κ2 + c) (tCallS (spDX K c π) (WE W) t) (dCallX π r) := ⟨fun ρ0 H0 M0 H M σ δ Q Qd Xd s q k gx => h.run H0 M0 H M σ δ _ _ (s.le (by omega)) q fun xs vs H2 M2 w2 e2 n2 y => by
  cases e : allD xs with
  | none => simp only [e] at y
  | some ds =>
    simp only [e] at y
    refine ⟨M2, ds, _, _, ?_, w2, allD_is n2 e, y, fun d v H' M' w' e' n' q' => k (.d d) v H' M' w' (e2.trans e') n' q', fun S fs d H' M' w' e' ex q' => ?_⟩
    · have := (s.xl (c' := c + ρ0) w2 e2 (by omega)).cr
      have := s.lim
      omega
    · exact gx.ex S fs d σ δ H' M' (s.xl w' (e2.trans e') (by omega)) (e2.trans e').toXT ex q'⟩
def dArg1 (π : List D → (D → Prop) → Prop) (τ : XDs → TDE) : XDs → TDE := fun Xd δ Q => τ Xd δ fun x => ∃ d, x = .d d ∧ π [d] fun d => Q (.d d)
/-- g(e) where e may raise -/
theorem sex_arg1 {π : List D → (D → Prop) → Prop} {E : XK} {te : TE} {τ : XDs → TDE} {c : Nat} (ha : SEX K W κ1 te τ) : SEX K W (κ1 + c) (tCall (spD K c π) [] E (tCons te tNil)) (dArg1 π τ) := ⟨fun ρ0 H0 M0 H M σ δ Q Qd Xd s q k gx => ha.run (c + ρ0) H0 M0 H M σ δ _ _ Xd (s.le (by omega)) q (fun x v H1 M1 w1 e1 n1 z => by
  obtain ⟨d, rfl, z⟩ := z
  refine ⟨M1, [d], _, ?_, w1, ⟨v, [], rfl, n1, rfl⟩, z, fun d v H' M' w' e' n' q' => k (.d d) v H' M' w' (e1.trans e') n' q'⟩
  have := (s.xl (c' := c + ρ0) w1 e1 (by omega)).cr
  have := s.lim
  omega) (gx.le (Nat.le_add_left _ _))⟩
end
end K
namespace K
open PySem PySem.Spec PyProof.Rows L2 Rp
variable [TabT]
/-! ### == of data, own == at any depth -/
section
variable {K : PySem.W.Frag}
mutual
theorem Dn.ext0 {H H' : Hp} (x : L2.Ext H H') : ∀ (d : D) (v : V), d.pure = true → Dn K H M0_ d v → Dn K H' M0_ d v
  | .non, _, _, h => h
  | .bl _, _, _, h => h
  | .int _, _, _, h => h
  | .str _, _, _, h => h
  | .raw _, _, p, _ => by cases p
  | .deck, _, p, _ => by cases p
  | .scr _, _, p, _ => by cases p
  | .dic _, _, p, _ => by cases p
  | .tup ds, _, p, ⟨a, vs, e, h, k⟩ => ⟨a, vs, e, x _ _ h, DnL.ext0 x ds vs p k⟩
  | .lst ds, _, p, ⟨a, vs, e, h, m, k⟩ => ⟨a, vs, e, x _ _ h, m, DnL.ext0 x ds vs p k⟩
  | .ins C fs, _, p, ⟨a, dx, ws, e, h, k⟩ => ⟨a, dx, ws, e, x _ _ h, DnF.ext0 x fs ws p k⟩
theorem DnL.ext0 {H H' : Hp} (x : L2.Ext H H') : ∀ (ds : List D) (vs : List V), D.pureL ds = true → DnL K H M0_ ds vs → DnL K H' M0_ ds vs
  | [], _, _, h => h
  | d :: ds, _, p, ⟨u, us, e, h, k⟩ => by
    have p : (d.pure && D.pureL ds) = true := p
    rw [Bool.and_eq_true] at p
    exact ⟨u, us, e, Dn.ext0 x d u p.1 h, DnL.ext0 x ds us p.2 k⟩
theorem DnF.ext0 {H H' : Hp} (x : L2.Ext H H') : ∀ (ds : List (Str × D)) (vs : List (Str × V)), D.pureF ds = true → DnF K H M0_ ds vs → DnF K H' M0_ ds vs
  | [], _, _, h => h
  | (y, d) :: ds, _, p, ⟨u, us, e, h, k⟩ => by
    have p : (d.pure && D.pureF ds) = true := p
    rw [Bool.and_eq_true] at p
    exact ⟨u, us, e, Dn.ext0 x d u p.1 h, DnF.ext0 x ds us p.2 k⟩
end
theorem DnL.at {H : Hp} {M : Mk_} : ∀ {ds : List D} {vs : List V}, DnL K H M ds vs → ∀ (i : Nat) (v : V), vs[i]? = some v → ∃ d, ds[i]? = some d ∧ Dn K H M d v
  | [], vs, h, i, v, e => by
    have h : vs = [] := h
    rw [h] at e
    cases e
  | d :: ds, vs, h, i, v, e => by
    obtain ⟨u, us, rfl, h1, h2⟩ := h
    cases i with
    | zero => cases e; exact ⟨d, rfl, h1⟩
    | succ i => exact DnL.at h2 i v e
theorem pureL_at {ds : List D} (h : D.pureL ds = true) {i : Nat} {d : D} (e : ds[i]? = some d) : d.pure = true := pureL_all.mp h d (List.mem_of_getElem? e)
end
/-- which answer an own == gives -/
abbrev OwD := Addr → List (Str × D) → D → Bool → Prop
/-- the answer of ==, to the depth n -/
def DQ (ow : OwD) : Nat → D → D → Bool → Prop
  | 0, d, e, b => (∃ x y, d.sv = some x ∧ e.sv = some y ∧ flatV x = true ∧ flatV y = true ∧ b = eqV x y) ∨ ∃ C fs, d = .ins C fs ∧ ow C fs e b
  | n + 1, d, e, b => (∃ xs ys f, d = .tup xs ∧ e = .tup ys ∧ xs.length = ys.length ∧ (∀ i x y, xs[i]? = some x → ys[i]? = some y → DQ ow n x y (f i)) ∧ b = (List.range xs.length).all f) ∨ DQ ow n d e b
/-- what is equal to itself -/
theorem DQ.self {ow : OwD} (hs : ∀ C fs b, ow C fs (.ins C fs) b → b = true) : ∀ {n : Nat} {d : D} {b : Bool}, DQ ow n d d b → b = true
  | 0, d, b, h => by
    rcases h with ⟨x, y, e1, e2, f1, f2, rfl⟩ | ⟨C, fs, rfl, h⟩
    · rw [e1] at e2
      cases e2
      cases d <;> cases e1 <;> simp [eqV, flatV] at f1 ⊢
    · exact hs C fs b h
  | n + 1, d, b, h => by
    rcases h with ⟨xs, ys, f, rfl, e, l, h, rfl⟩ | h
    · cases e
      refine List.all_eq_true.mpr fun i hi => ?_
      have hi := List.mem_range.mp hi
      exact DQ.self hs (h i _ _ (List.getElem?_eq_getElem hi) (List.getElem?_eq_getElem hi))
    · exact DQ.self hs h
def DDq (K : PySem.W.Frag) (ow : OwD) (n : Nat) : Eqb := fun x y b H => ∃ d e, d.pure = true ∧ e.pure = true ∧ Dn K H M0_ d x ∧ Dn K H M0_ e y ∧ DQ ow n d e b
theorem mon_dq {K : PySem.W.Frag} {ow : OwD} {n : Nat} : MonB (DDq K ow n) := fun x y b H H' e ⟨d, d', p, p', h, h', q⟩ => ⟨d, d', p, p', Dn.ext0 e d x p h, Dn.ext0 e d' y p' h', q⟩
/-- what the own == of a class is asked to answer -/
def RD (K : PySem.W.Frag) (ow : OwD) (C : Addr) : Addr → V → Bool → Hp → Prop := fun a y b H => ∃ fs e, (D.ins C fs).pure = true ∧ e.pure = true ∧ Dn K H M0_ (.ins C fs) (.ref a) ∧ Dn K H M0_ e y ∧ ow C fs e b
/-- the == of the classes that ow speaks of -/
structure OwEq (X : Cx) (n : Nat) (ow : OwD) : Prop where
  self : ∀ C fs b, ow C fs (.ins C fs) b → b = true
  run : ∀ C fs e b, ow C fs e b → ∃ (f : Addr) (fd : FuncData) (ps : List Str) (tb : Value) (CX : CXT) (E : XK), FnOk X.prog X.w X.K X.mg X.base CX n f fd ps (spO (RD X.K ow C)) ∧ OwnE X.K C f ∧ Binds X.K fd ps [] ∧ Passes CX X E ∧ e.tyOk X.K tb ∧ PySem.W.notFirst X.K C tb = true
section
variable {X : Cx} {n : Nat} {D : Eqb}
/-- tuples of one length, anywhere -/
theorem rc_tup (hD : MonB D) (h : EqB X n D) {A : Around} (sb : L2.Sub X (n + 1) A) {pins : List (Addr × Obj)} {σ : L2.St} {H : Hp} {s : Shared} {a b : Addr} {xs ys : List V} {e : Nat → Bool} (I : Inv X pins σ H s) (ha : SqT X.K H a xs) (hb : SqT X.K H b ys) (hl : xs.length = ys.length)
    (hd : ∀ i p q, xs[i]? = some p → ys[i]? = some q → D p q (e i) H) : wpAny (model X.prog X.w) A (richCompare .Eq (.ref a) (.ref b)) (fun w s' => w = .bool ((List.range xs.length).all e) ∧ ∃ H', Inv X pins σ H' s' ∧ L2.Ext H H') X.xe s := by
  obtain ⟨its, r, ⟨⟨cls, dd, data, sl⟩, ho, hc, k1, hd1⟩, _⟩ := I.tuple ha
  obtain ⟨its2, r2, ⟨⟨cls2, dd2, data2, sl2⟩, ho2, hc2, k2, hd2⟩, _⟩ := I.tuple hb
  simp only at hc hd1 hc2 hd2
  subst hc hd1 hc2 hd2
  have hsz : its.toArray.size = its2.toArray.size := by rw [List.size_toArray, List.size_toArray, ← r.length, ← r2.length]; exact hl
  have hN : its.toArray.size = xs.length := by rw [List.size_toArray, ← r.length]
  refine wpAny_richCompare_same_room (op := .Eq) ⟨_, ho, rfl⟩ ⟨_, ho2, rfl⟩ PySem.F.slot_tuple_eq (GQ.call_here PySem.F.slot_tuple_eq ⟨_, ho, rfl⟩ PySem.F.entry_tuple_eq (PySem.F.args_tuple_eq_2 _ _) ?_) sb.room.units0
  refine tuple_eqG2 (R := wants (fun v s' => v ≠ .notImplemented ∧ (v = .bool ((List.range xs.length).all e) ∧ ∃ H', Inv X pins σ H' s' ∧ L2.Ext H H')) X.xe) a b its.toArray its2.toArray k1 k2 dd dd2 sl sl2 hsz e (fun _ s' => LoopJ X pins σ H s') (fun i h1 h2 s' l => ?_) (fun i s' l => ?_) ho ho2 ⟨H, I, L2.Ext.rfl'⟩
  · obtain ⟨H1, I1, e1⟩ := l
    have h1' : i < its.length := by simpa using h1
    have h2' : i < its2.length := by simpa using h2
    have q1 : i < xs.length := by rw [r.length]; exact h1'
    have q2 : i < ys.length := by rw [r2.length]; exact h2'
    obtain ⟨u, hu, ru⟩ := r.get (List.getElem?_eq_getElem q1)
    obtain ⟨v, hv, rv⟩ := r2.get (List.getElem?_eq_getElem q2)
    have g1 : its[i]? = some its.toArray[i] := by rw [List.getElem?_eq_getElem h1'] <;> simp
    have g2 : its2[i]? = some its2.toArray[i] := by rw [List.getElem?_eq_getElem h2'] <;> simp
    rw [g1] at hu
    rw [g2] at hv
    rw [Option.some.inj hu, Option.some.inj hv]
    refine wpAny_mono (h A.in1 pins s' σ H1 _ _ u v (e i) (L2.Sub.in1 sb) I1 ru rv (hD _ _ _ _ _ e1 (hd i _ _ (List.getElem?_eq_getElem q1) (List.getElem?_eq_getElem q2)))) (fun r s2 q => ?_) fun _ _ x => x
    obtain ⟨hr', H2, I2, e2⟩ := q
    exact ⟨hr', H2, I2, e1.trans e2⟩
  · obtain ⟨H1, I1, e1⟩ := l
    rw [hN]
    exact ⟨(fun x => nomatch x), rfl, H1, I1, e1⟩
end
theorem sv_dn {K : PySem.W.Frag} {H : Hp} {M : Mk_} {d : D} {v x : V} (h : Dn K H M d v) (e : d.sv = some x) : v = x := by
  cases d <;> cases e <;> exact h
theorem eqB_dq {X : Cx} {m : Nat} {ow : OwD} (O : OwEq X m ow) (n : Nat) : EqB X (m + n) (DDq X.K ow n) := by
  have bk : ∀ {A : Around} {pins : List (Addr × Obj)} {σ : L2.St} {H : Hp} {s : Shared} {b : Bool} {t : Sem Value}, wpAny (model X.prog X.w) A t (fun w s' => w = .bool b ∧ ∃ H', Inv X pins σ H' s' ∧ L2.Ext H H') X.xe s → wpAny (model X.prog X.w) A t (fun v s' => ∃ r, v = .bool r ∧ (r = b ∧ ∃ H', Inv X pins σ H' s' ∧ L2.Ext H H')) X.xe s := fun {A pins σ H s b t} h =>
    wpAny_mono h (fun w s' q => ⟨b, q.1, rfl, q.2⟩) fun _ _ e => e
  have idn : ∀ {A : Around} {pins : List (Addr × Obj)} {σ : L2.St} {H : Hp} {s : Shared} {b : Bool} {a : Addr}, Inv X pins σ H s → b = true → wpAny (model X.prog X.w) A (eqBool (.ref a) (.ref a)) (fun r s' => r = b ∧ ∃ H', Inv X pins σ H' s' ∧ L2.Ext H H') X.xe s := fun {A pins σ H s b a} I e => by
    subst e
    exact SeqAt.EqAt.same (A := A) (s := s) (.ref _) X.prog X.w X.xe _ ⟨rfl, H, I, L2.Ext.rfl'⟩
  induction n with
  | zero =>
    intro A pins s σ H x y u v b sb I rx ry ⟨d, e, p, p', h, h', q⟩
    rcases q with ⟨x', y', e1, e2, f1, f2, rfl⟩ | ⟨C, fs, rfl, q⟩
    · have ex := sv_dn h e1
      have ey := sv_dn h' e2
      subst ex ey
      exact eqAt_V rx ry f1 f2 X.prog X.w X.xe _ ⟨rfl, H, I, L2.Ext.rfl'⟩
    · obtain ⟨a, dx, ws, rfl, hA, hF⟩ := id h
      cases (show u = Value.ref a from rx)
      by_cases ne : y = .ref a
      · subst ne
        cases (show v = Value.ref a from ry)
        have ee := Dn.det _ _ _ p p' h h'
        rw [← ee] at q
        exact idn I (O.self C fs b q)
      · obtain ⟨f, fd, ps, tb, CX, E, F, OE, hb, hx, ty, nf⟩ := O.run C fs e b q
        exact eqBool_left (rel_ne ry ne) (bk (rcB_left F OE hb hx sb I ry hA (D.tyX h' ty) nf ⟨fs, e, p, p', h, h', q⟩))
  | succ n ih =>
    intro A pins s σ H x y u v b sb I rx ry ⟨d, e, p, p', h, h', q⟩
    rcases q with ⟨xs, ys, f, rfl, rfl, l, q, rfl⟩ | q
    · obtain ⟨a, vs, rfl, hA, hL⟩ := id h
      obtain ⟨c, ws, rfl, hC, hL'⟩ := id h'
      cases (show u = Value.ref a from rx)
      cases (show v = Value.ref c from ry)
      by_cases ne : c = a
      · subst ne
        have ee := Dn.det _ _ _ p p' h h'
        injection ee with ee
        subst ee
        refine idn I (List.all_eq_true.mpr fun i hi => ?_)
        have hi := List.mem_range.mp hi
        exact DQ.self O.self (q i _ _ (List.getElem?_eq_getElem hi) (List.getElem?_eq_getElem hi))
      · have ql : (List.range xs.length).all f = (List.range vs.length).all f := by rw [hL.len]
        rw [ql]
        refine eqBool_left (fun z => ne (by cases z; rfl)) (bk (rc_tup mon_dq ih sb I (.inl (.of hA)) (.inl (.of hC)) (by rw [hL.len, hL'.len, l]) fun i x y e1 e2 => ?_))
        obtain ⟨d, h1, h2⟩ := hL.at i x e1
        obtain ⟨e, h3, h4⟩ := hL'.at i y e2
        exact ⟨d, e, pureL_at p h1, pureL_at p' h3, h2, h4, q i d e h1 h3⟩
    · exact ih A pins s σ H x y u v b (sb.mono (by omega)) I rx ry ⟨d, e, p, p', h, h', q⟩
/-! ### over data: in a list, == of tuples -/
section
variable {K : PySem.W.Frag} {κ1 κ2 : Nat}
theorem ext_xe {H H' : Hp} {M : Mk_} (w : Wd H M) (x : L2.Ext H H') : Wd H' M ∧ XE 0 H M H' M := same_xe w x
/-- d in ds: the answers one by one -/
def ρInQ (ow : OwD) (n : Nat) (g : Bool → Bool) : DX → DX → (DX → Prop) → Prop := fun x y Q => ∃ (d : D) (ds : List D) (f : Nat → Bool), x = .d d ∧ y.get = .lst ds ∧ d.pure = true ∧ D.pureL ds = true ∧ (∀ i e, ds[i]? = some e → DQ ow n e d (f i)) ∧ Q (.d (.bl (g ((List.range ds.length).any f))))
theorem sr_inQ {ow : OwD} {n : Nat} {g : Bool → Bool} : SR2 K (rInB (DDq K ow n) g) (ρInQ ow n g) := ⟨fun H0 H M x y v u Q Qd w n1 n2 h k => by
  obtain ⟨d, ds, f, rfl, e, p, pl, q, z⟩ := h
  obtain ⟨a, us, rfl, l, nl⟩ := lst_at n2 e
  refine ⟨a, us, f, rfl, l, fun i x hx => ?_, fun H' x => ?_⟩
  · obtain ⟨e, h1, h2⟩ := nl.at i x hx
    exact ⟨e, d, pureL_at pl h1, p, Dn.m0 _ _ (pureL_at pl h1) h2, Dn.m0 _ _ p n1, q i e h1⟩
  · obtain ⟨w2, x2⟩ := ext_xe w x
    rw [nl.len]
    exact k (.d (.bl _)) _ H' M w2 x2 rfl z⟩
def ρEqQ (ow : OwD) (n : Nat) : DX → DX → (DX → Prop) → Prop := fun x y Q => ∃ (xs ys : List D) (f : Nat → Bool), x = .d (.tup xs) ∧ y = .d (.tup ys) ∧ xs.length = ys.length ∧ D.pureL xs = true ∧ D.pureL ys = true ∧ (∀ i d e, xs[i]? = some d → ys[i]? = some e → DQ ow n d e (f i)) ∧ Q (.d (.bl ((List.range xs.length).all f)))
theorem sr_eqQ {ow : OwD} {n : Nat} : SR2 K (rEqTB K (DDq K ow n)) (ρEqQ ow n) := ⟨fun H0 H M x y v u Q Qd w n1 n2 h k => by
  obtain ⟨xs, ys, f, rfl, rfl, l, p, p', q, z⟩ := h
  obtain ⟨a, vs, rfl, hA, hL⟩ := n1
  obtain ⟨c, us, rfl, hC, hL'⟩ := n2
  refine ⟨a, c, vs, us, f, rfl, rfl, .inl (.of hA), .inl (.of hC), by rw [hL.len, hL'.len, l], fun i x y e1 e2 => ?_, fun H' x => ?_⟩
  · obtain ⟨d, h1, h2⟩ := hL.at i x e1
    obtain ⟨e, h3, h4⟩ := hL'.at i y e2
    exact ⟨d, e, pureL_at p h1, pureL_at p' h3, Dn.m0 _ _ (pureL_at p h1) h2, Dn.m0 _ _ (pureL_at p' h3) h4, q i d e h1 h3⟩
  · obtain ⟨w2, x2⟩ := ext_xe w x
    rw [hL.len]
    exact k (.d (.bl _)) _ H' M w2 x2 rfl z⟩
end
end K
namespace K
open PySem L2 Rp
variable [TabT]
/-- the own == of classes, said of the program -/
structure OwP (P : Program) (w : World) (K : PySem.W.Frag) (mg : Str → Option Value) (base : Heap) (n : Nat) (ow : OwD) : Prop where
  self : ∀ C fs b, ow C fs (.ins C fs) b → b = true
  run : ∀ C fs e b, ow C fs e b → ∃ (f : Addr) (fd : FuncData) (ps : List Str) (tb : Value), FnOk P w K mg base CX0 n f fd ps (spO (RD K ow C)) ∧ OwnE K C f ∧ Binds K fd ps [] ∧ e.tyOk K tb ∧ PySem.W.notFirst K C tb = true
theorem OwP.at {X : Cx} {n : Nat} {ow : OwD} (h : OwP X.prog X.w X.K X.mg X.base n ow) : OwEq X n ow := ⟨h.self, fun C fs e b q => by
  obtain ⟨f, fd, ps, tb, F, O, hb, ty, nf⟩ := h.run C fs e b q
  exact ⟨f, fd, ps, tb, CX0, E0, F, O, hb, pass0, ty, nf⟩⟩
section
variable {X : Cx} {P : Program} {w : World} {K : PySem.W.Frag} {mg : Str → Option Value} {base : Heap} {m : Nat} {ow : OwD}
theorem op_inQ (O : OwP P w K mg base m ow) (n : Nat) (hP : X.prog = P) (hw : X.w = w) (hK : X.K = K) (hg : X.mg = mg) (hb : X.base = base) (hr : Room (m + n + 1) X.A) : OpR X (compareOp .In) (rInB (DDq K ow n) id) := by
  subst hP hw hK hg hb
  exact op_inB mon_dq (eqB_dq O.at n) hr
theorem op_notInQ (O : OwP P w K mg base m ow) (n : Nat) (hP : X.prog = P) (hw : X.w = w) (hK : X.K = K) (hg : X.mg = mg) (hb : X.base = base) (hr : Room (m + n + 1) X.A) : OpR X (compareOp .NotIn) (rInB (DDq K ow n) not) := by
  subst hP hw hK hg hb
  exact op_notInB mon_dq (eqB_dq O.at n) hr
theorem op_eqQ (O : OwP P w K mg base m ow) (n : Nat) (hP : X.prog = P) (hw : X.w = w) (hK : X.K = K) (hg : X.mg = mg) (hb : X.base = base) (hr : Room (m + n + 1) X.A) : OpR X (compareOp .Eq) (rEqTB K (DDq K ow n)) := by
  subst hP hw hK hg hb
  exact op_eqTB mon_dq (eqB_dq O.at n) hr
end
end K
namespace K
open PySem PySem.Spec PyProof.Rows L2 Rp
variable [TabT]
/-! ### ==, != and in with own instances of any class on either side, over data that may hold dicts -/
section
variable {K : PySem.W.Frag}
mutual
theorem Dn.ext2 {H H' : Hp} (x : L2.Ext H H') : ∀ (d : D) (v : V), d.pd = true → Dn K H M0_ d v → Dn K H' M0_ d v
  | .non, _, _, h => h
  | .bl _, _, _, h => h
  | .int _, _, _, h => h
  | .str _, _, _, h => h
  | .raw _, _, p, _ => by cases p
  | .deck, _, p, _ => by cases p
  | .scr _, _, p, _ => by cases p
  | .dic ds, _, p, ⟨a, vs, e, h, k⟩ => ⟨a, vs, e, x _ _ h, DnK.ext2 x ds vs p k⟩
  | .tup ds, _, p, ⟨a, vs, e, h, k⟩ => ⟨a, vs, e, x _ _ h, DnL.ext2 x ds vs p k⟩
  | .lst ds, _, p, ⟨a, vs, e, h, m, k⟩ => ⟨a, vs, e, x _ _ h, m, DnL.ext2 x ds vs p k⟩
  | .ins C fs, _, p, ⟨a, dx, ws, e, h, k⟩ => ⟨a, dx, ws, e, x _ _ h, DnF.ext0 x fs ws p k⟩
theorem DnL.ext2 {H H' : Hp} (x : L2.Ext H H') : ∀ (ds : List D) (vs : List V), D.pdL ds = true → DnL K H M0_ ds vs → DnL K H' M0_ ds vs
  | [], _, _, h => h
  | d :: ds, _, p, ⟨u, us, e, h, k⟩ => by
    have p : (d.pd && D.pdL ds) = true := p
    rw [Bool.and_eq_true] at p
    exact ⟨u, us, e, Dn.ext2 x d u p.1 h, DnL.ext2 x ds us p.2 k⟩
theorem DnK.ext2 {H H' : Hp} (x : L2.Ext H H') : ∀ (ds : List (Key × D)) (vs : List (Key × V)), D.pdK ds = true → DnK K H M0_ ds vs → DnK K H' M0_ ds vs
  | [], _, _, h => h
  | (y, d) :: ds, _, p, ⟨u, us, e, h, k⟩ => by
    have p : (d.pd && D.pdK ds) = true := p
    rw [Bool.and_eq_true] at p
    exact ⟨u, us, e, Dn.ext2 x d u p.1 h, DnK.ext2 x ds us p.2 k⟩
end
end
/-- of a built-in type -/
def D.back : D → String → Prop
  | .non, t => t = "NoneType"
  | .bl _, t => t = "bool"
  | .int _, t => t = "int"
  | .str _, t => t = "str"
  | .tup _, t => t = "tuple"
  | .lst _, t => t = "list"
  | .dic _, t => t = "dict"
  | _, _ => False
theorem D.backV {K : PySem.W.Frag} {H : Hp} {M : Mk_} {d : D} {v : V} {T : String} (n : Dn K H M d v) (h : d.back T) : BackV K H v T := by
  cases d with
  | non => have n : v = _ := n; have h : T = _ := h; subst n h; exact .non
  | bl _ => have n : v = _ := n; have h : T = _ := h; subst n h; exact .bl _
  | int _ => have n : v = _ := n; have h : T = _ := h; subst n h; exact .int _
  | str _ => have n : v = _ := n; have h : T = _ := h; subst n h; exact .str _
  | tup _ =>
    obtain ⟨a, vs, rfl, hA, _⟩ := n
    have h : T = _ := h
    subst h
    exact .tup (.inl (.of hA))
  | lst _ =>
    obtain ⟨a, vs, rfl, hA, _⟩ := n
    have h : T = _ := h
    subst h
    exact .lst hA
  | dic _ =>
    obtain ⟨a, vs, rfl, hA, _⟩ := n
    have h : T = _ := h
    subst h
    exact .dK hA
  | ins _ _ => exact h.elim
  | raw _ => exact h.elim
  | deck => exact h.elim
  | scr _ => exact h.elim
/-- what the own == of a class is asked to answer -/
def RD2 (K : PySem.W.Frag) (ow : OwD) (C : Addr) : Addr → V → Bool → Hp → Prop := fun a y b H => ∃ fs e, (D.ins C fs).pd = true ∧ e.pd = true ∧ Dn K H M0_ (.ins C fs) (.ref a) ∧ Dn K H M0_ e y ∧ ow C fs e b
/-- who is asked: the left one's class, or the right one's where the left one is of a built-in type -/
def AskO (K : PySem.W.Frag) (ow : OwD) (d e : D) (b : Bool) : Prop := (∃ C fs tb, d = .ins C fs ∧ e.tyOk K tb ∧ PySem.W.notFirst K C tb = true ∧ ow C fs e b) ∨ (∃ C fs T, e = .ins C fs ∧ d.back T ∧ PySem.W.subIn K (.ref C) (.type T) = some false ∧ ow C fs d b)
def DOF (K : PySem.W.Frag) (ow : OwD) : Eqb := fun x y b H => ∃ d e, d.pd = true ∧ e.pd = true ∧ Dn K H M0_ d x ∧ Dn K H M0_ e y ∧ AskO K ow d e b
theorem mon_of {K : PySem.W.Frag} {ow : OwD} : MonB (DOF K ow) := fun x y b H H' e ⟨d, d', p, p', h, h', q⟩ => ⟨d, d', p, p', Dn.ext2 e d x p h, Dn.ext2 e d' y p' h', q⟩
/-- the == of the classes that ow speaks of -/
structure OwF (P : Program) (w : World) (K : PySem.W.Frag) (mg : Str → Option Value) (base : Heap) (n : Nat) (ow : OwD) : Prop where
  self : ∀ C fs b, ow C fs (.ins C fs) b → b = true
  run : ∀ C fs e b, ow C fs e b → ∃ (f : Addr) (fd : FuncData) (ps : List Str), FnOk P w K mg base CX0 n f fd ps (spO (RD2 K ow C)) ∧ OwnE K C f ∧ Binds K fd ps []
section
variable {X : Cx} {n : Nat} {ow : OwD}
theorem rcF_eq (O : OwF X.prog X.w X.K X.mg X.base n ow) {A : Around} {pins : List (Addr × Obj)} {s : Shared} {σ : L2.St} {H : Hp} {x y : V} {u v : Value} {b : Bool} (sb : L2.Sub X n A) (I : Inv X pins σ H s) (rx : RelV x u) (ry : RelV y v) (h : DOF X.K ow x y b H) :
    wpAny (model X.prog X.w) A (richCompare .Eq u v) (fun w s' => w = .bool b ∧ ∃ H', Inv X pins σ H' s' ∧ L2.Ext H H') X.xe s := by
  obtain ⟨d, e, p, p', h, h', q⟩ := h
  rcases q with ⟨C, fs, tb, rfl, ty, nf, q⟩ | ⟨C, fs, T, rfl, bk, hs, q⟩
  · obtain ⟨a, dx, ws, rfl, hA, hF⟩ := id h
    cases (show u = Value.ref a from rx)
    obtain ⟨f, fd, ps, F, OE, hb⟩ := O.run C fs e b q
    exact rcB_left F OE hb pass0 sb I ry hA (D.tyX h' ty) nf ⟨fs, e, p, p', h, h', q⟩
  · obtain ⟨a, dx, ws, rfl, hA, hF⟩ := id h'
    cases (show v = Value.ref a from ry)
    obtain ⟨f, fd, ps, F, OE, hb⟩ := O.run C fs d b q
    exact rcB_right F OE hb pass0 sb I rx hA (D.backV h bk) hs ⟨fs, d, p', p, h', h, q⟩
theorem rcF_ne (O : OwF X.prog X.w X.K X.mg X.base n ow) {A : Around} {pins : List (Addr × Obj)} {s : Shared} {σ : L2.St} {H : Hp} {x y : V} {u v : Value} {b : Bool} (sb : L2.Sub X (n + 1) A) (I : Inv X pins σ H s) (rx : RelV x u) (ry : RelV y v) (h : DOF X.K ow x y b H) :
    wpAny (model X.prog X.w) A (richCompare .NotEq u v) (fun w s' => w = .bool (!b) ∧ ∃ H', Inv X pins σ H' s' ∧ L2.Ext H H') X.xe s := by
  obtain ⟨d, e, p, p', h, h', q⟩ := h
  rcases q with ⟨C, fs, tb, rfl, ty, nf, q⟩ | ⟨C, fs, T, rfl, bk, hs, q⟩
  · obtain ⟨a, dx, ws, rfl, hA, hF⟩ := id h
    cases (show u = Value.ref a from rx)
    obtain ⟨f, fd, ps, F, OE, hb⟩ := O.run C fs e b q
    exact rcN_left F OE hb pass0 sb I ry hA (D.tyX h' ty) nf ⟨fs, e, p, p', h, h', q⟩
  · obtain ⟨a, dx, ws, rfl, hA, hF⟩ := id h'
    cases (show v = Value.ref a from ry)
    obtain ⟨f, fd, ps, F, OE, hb⟩ := O.run C fs d b q
    exact rcN_right F OE hb pass0 sb I rx hA (D.backV h bk) hs ⟨fs, d, p', p, h', h, q⟩
theorem eqB_of (O : OwF X.prog X.w X.K X.mg X.base n ow) : EqB X n (DOF X.K ow) := by
  intro A pins s σ H x y u v b sb I rx ry h
  have rc := rcF_eq O sb I rx ry h
  have bk : wpAny (model X.prog X.w) A (richCompare .Eq u v) (fun v s' => ∃ r, v = .bool r ∧ (r = b ∧ ∃ H', Inv X pins σ H' s' ∧ L2.Ext H H')) X.xe s := wpAny_mono rc (fun w s' q => ⟨b, q.1, rfl, q.2⟩) fun _ _ e => e
  have idn : ∀ {a : Addr}, b = true → wpAny (model X.prog X.w) A (eqBool (.ref a) (.ref a)) (fun r s' => r = b ∧ ∃ H', Inv X pins σ H' s' ∧ L2.Ext H H') X.xe s := fun {a} e => by
    subst e
    exact SeqAt.EqAt.same (A := A) (s := s) (.ref _) X.prog X.w X.xe _ ⟨rfl, H, I, L2.Ext.rfl'⟩
  obtain ⟨d, e, p, p', h, h', q⟩ := h
  rcases q with ⟨C, fs, tb, rfl, ty, nf, q⟩ | ⟨C, fs, T, rfl, kk, hs, q⟩
  · obtain ⟨a, dx, ws, rfl, hA, hF⟩ := id h
    cases (show u = Value.ref a from rx)
    by_cases ne : y = .ref a
    · subst ne
      cases (show v = Value.ref a from ry)
      have ee := Dn.det2 _ _ _ p p' h h'
      rw [← ee] at q
      exact idn (O.self C fs b q)
    · exact eqBool_left (rel_ne ry ne) bk
  · obtain ⟨a, dx, ws, rfl, hA, hF⟩ := id h'
    cases (show v = Value.ref a from ry)
    by_cases ne : x = .ref a
    · subst ne
      cases (show u = Value.ref a from rx)
      have ee := Dn.det2 _ _ _ p' p h' h
      rw [← ee] at q
      exact idn (O.self C fs b q)
    · exact eqBool_right (rel_ne rx ne) bk
def rEqF (K : PySem.W.Frag) (ow : OwD) (g : Bool → Bool) : R2 := fun x y H Q => ∃ b, DOF K ow x y b H ∧ ∀ H', L2.Ext H H' → Q (.bl (g b)) H'
theorem op_eqF (O : OwF X.prog X.w X.K X.mg X.base n ow) (hr : Room n X.A) : OpR X (compareOp .Eq) (rEqF X.K ow id) := by
  intro pins s σ H x y u v Q I rx ry hq
  obtain ⟨b, h, q⟩ := hq
  show wpAny (model X.prog X.w) X.A (richCompare .Eq u v) (EP X pins σ Q) X.xe s
  refine wpAny_mono (rcF_eq O ⟨hr, rfl⟩ I rx ry h) (fun w s' k => ?_) fun _ _ e => e
  obtain ⟨rfl, H', I', e⟩ := k
  exact ⟨.bl b, H', I', rfl, q H' e⟩
theorem op_neF (O : OwF X.prog X.w X.K X.mg X.base n ow) (hr : Room (n + 1) X.A) : OpR X (compareOp .NotEq) (rEqF X.K ow not) := by
  intro pins s σ H x y u v Q I rx ry hq
  obtain ⟨b, h, q⟩ := hq
  show wpAny (model X.prog X.w) X.A (richCompare .NotEq u v) (EP X pins σ Q) X.xe s
  refine wpAny_mono (rcF_ne O ⟨hr, rfl⟩ I rx ry h) (fun w s' k => ?_) fun _ _ e => e
  obtain ⟨rfl, H', I', e⟩ := k
  exact ⟨.bl (!b), H', I', rfl, q H' e⟩
end
section
variable {X : Cx} {P : Program} {w : World} {K : PySem.W.Frag} {mg : Str → Option Value} {base : Heap} {m : Nat} {ow : OwD}
theorem op_eqFQ (O : OwF P w K mg base m ow) (hP : X.prog = P) (hw : X.w = w) (hK : X.K = K) (hg : X.mg = mg) (hb : X.base = base) (hr : Room m X.A) : OpR X (compareOp .Eq) (rEqF K ow id) := by
  subst hP hw hK hg hb
  exact op_eqF O hr
theorem op_neFQ (O : OwF P w K mg base m ow) (hP : X.prog = P) (hw : X.w = w) (hK : X.K = K) (hg : X.mg = mg) (hb : X.base = base) (hr : Room (m + 1) X.A) : OpR X (compareOp .NotEq) (rEqF K ow not) := by
  subst hP hw hK hg hb
  exact op_neF O hr
theorem op_inFQ (O : OwF P w K mg base m ow) (hP : X.prog = P) (hw : X.w = w) (hK : X.K = K) (hg : X.mg = mg) (hb : X.base = base) (hr : Room (m + 1) X.A) : OpR X (compareOp .In) (rInB (DOF K ow) id) := by
  subst hP hw hK hg hb
  exact op_inB mon_of (eqB_of O) hr
theorem op_inTFQ (O : OwF P w K mg base m ow) (hP : X.prog = P) (hw : X.w = w) (hK : X.K = K) (hg : X.mg = mg) (hb : X.base = base) (hr : Room (m + 1) X.A) : OpR X (compareOp .In) (rInTB K (DOF K ow) id) := by
  subst hP hw hK hg hb
  exact op_inTB mon_of (eqB_of O) hr
end
section
variable {K : PySem.W.Frag}
def ρEqF (K : PySem.W.Frag) (ow : OwD) (g : Bool → Bool) : DX → DX → (DX → Prop) → Prop := fun x y Q => ∃ (d e : D) (b : Bool), x = .d d ∧ y = .d e ∧ d.pd = true ∧ e.pd = true ∧ AskO K ow d e b ∧ Q (.d (.bl (g b)))
theorem sr_eqF {ow : OwD} {g : Bool → Bool} : SR2 K (rEqF K ow g) (ρEqF K ow g) := ⟨fun H0 H M x y v u Q Qd w n1 n2 h k => by
  obtain ⟨d, e, b, rfl, rfl, p, p', q, z⟩ := h
  refine ⟨b, ⟨d, e, p, p', Dn.m02 d v p n1, Dn.m02 e u p' n2, q⟩, fun H' x => ?_⟩
  obtain ⟨w2, x2⟩ := ext_xe w x
  exact k (.d (.bl _)) _ H' M w2 x2 rfl z⟩
def ρInF (K : PySem.W.Frag) (ow : OwD) : DX → DX → (DX → Prop) → Prop := fun x y Q => ∃ (d : D) (ds : List D) (f : Nat → Bool), x = .d d ∧ y.get = .lst ds ∧ d.pd = true ∧ D.pdL ds = true ∧ (∀ i e, ds[i]? = some e → AskO K ow e d (f i)) ∧ Q (.d (.bl ((List.range ds.length).any f)))
theorem pdL_at : ∀ {ds : List D}, D.pdL ds = true → ∀ {i : Nat} {d : D}, ds[i]? = some d → d.pd = true
  | c :: ds, h, i, d, e => by
    have h : (c.pd && D.pdL ds) = true := h
    rw [Bool.and_eq_true] at h
    cases i with
    | zero => cases e; exact h.1
    | succ i => exact pdL_at h.2 (i := i) e
theorem sr_inF {ow : OwD} : SR2 K (rInB (DOF K ow) id) (ρInF K ow) := ⟨fun H0 H M x y v u Q Qd w n1 n2 h k => by
  obtain ⟨d, ds, f, rfl, e, p, pl, q, z⟩ := h
  obtain ⟨a, us, rfl, l, nl⟩ := lst_at n2 e
  refine ⟨a, us, f, rfl, l, fun i x hx => ?_, fun H' x => ?_⟩
  · obtain ⟨e, h1, h2⟩ := nl.at i x hx
    exact ⟨e, d, pdL_at pl h1, p, Dn.m02 _ _ (pdL_at pl h1) h2, Dn.m02 _ _ p n1, q i e h1⟩
  · obtain ⟨w2, x2⟩ := ext_xe w x
    rw [nl.len]
    exact k (.d (.bl _)) _ H' M w2 x2 rfl z⟩
def ρInTF (K : PySem.W.Frag) (ow : OwD) : DX → DX → (DX → Prop) → Prop := fun x y Q => ∃ (d : D) (ds : List D) (f : Nat → Bool), x = .d d ∧ y = .d (.tup ds) ∧ d.pd = true ∧ D.pdL ds = true ∧ (∀ i e, ds[i]? = some e → AskO K ow e d (f i)) ∧ Q (.d (.bl ((List.range ds.length).any f)))
theorem sr_inTF {ow : OwD} : SR2 K (rInTB K (DOF K ow) id) (ρInTF K ow) := ⟨fun H0 H M x y v u Q Qd w n1 n2 h k => by
  obtain ⟨d, ds, f, rfl, rfl, p, pl, q, z⟩ := h
  obtain ⟨a, us, rfl, l, nl⟩ := n2
  refine ⟨a, us, f, rfl, .inl (.of l), fun i x hx => ?_, fun H' x => ?_⟩
  · obtain ⟨e, h1, h2⟩ := nl.at i x hx
    exact ⟨e, d, pdL_at pl h1, p, Dn.m02 _ _ (pdL_at pl h1) h2, Dn.m02 _ _ p n1, q i e h1⟩
  · obtain ⟨w2, x2⟩ := ext_xe w x
    rw [nl.len]
    exact k (.d (.bl _)) _ H' M w2 x2 rfl z⟩
end
end K
namespace K
open PySem L2 Rp
variable [TabT]
/-! ### Notes -/
/-- a Note's fields, as __init__ stores them -/
def nf (x y : Str) (g b : Int) : List (Str × V) := putF "born" (.int b) (putF "grains" (.int g) (putF "ware" (.str y) (putF "name" (.str x) [])))
theorem nf_born (x y : Str) (g b : Int) : (nf x y g b).lookup ("born" : Str) = some (.int b) := by
  unfold nf
  rw [lookup_putF, if_pos rfl]
theorem nf_grains (x y : Str) (g b : Int) : (nf x y g b).lookup ("grains" : Str) = some (.int g) := by
  unfold nf
  rw [lookup_putF, if_neg (by decide +kernel), lookup_putF, if_pos rfl]
theorem nf_ware (x y : Str) (g b : Int) : (nf x y g b).lookup ("ware" : Str) = some (.str y) := by
  unfold nf
  rw [lookup_putF, if_neg (by decide +kernel), lookup_putF, if_neg (by decide +kernel), lookup_putF, if_pos rfl]
theorem nf_name (x y : Str) (g b : Int) : (nf x y g b).lookup ("name" : Str) = some (.str x) := by
  unfold nf
  rw [lookup_putF, if_neg (by decide +kernel), lookup_putF, if_neg (by decide +kernel), lookup_putF, if_neg (by decide +kernel), lookup_putF, if_pos rfl]
/-- a Note stands at p -/
def NAt (N : Addr) (H : Hp) (p : Addr) (x y : Str) (g b : Int) : Prop := ∃ dx, H p = some (.ins N dx (nf x y g b))
theorem NAt.same {N : Addr} {H H' : Hp} {p : Addr} {x y : Str} {g b : Int} (h : NAt N H p x y g b) (e : Same H H') : NAt N H' p x y g b := let ⟨dx, h⟩ := h; ⟨dx, e _ _ h⟩
/-- what a Note is of -/
structure NOkV (x y : Str) (g b : Int) : Prop where
  mx : nmV (.str x) = true
  my : nmV (.str y) = true
  g : 1 ≤ g
  b0 : 0 ≤ b
  b1 : b ≤ 1200
  ax : Asc x
  ay : Asc y
/-- what the top holds of the class Note, at N -/
structure NTxt (K : PySem.W.Frag) (mg : Str → Option Value) (N : Addr) : Prop where
  cl : Cls K N
  nN : NoAttr K N "name"
  nW : NoAttr K N "ware"
  nG : NoAttr K N "grains"
  nB : NoAttr K N "born"
  mgN : mg "Note" = some (.ref N)
def spNInit (N : Addr) : Sp := fun vs H Q _ => ∃ (p dx : Addr) (x y : Str) (g b : Int), vs = [.ref p, .str x, .str y, .int g, .int b] ∧ H p = some (.ins N dx []) ∧ NOkV x y g b ∧ ∀ H', Same H H' → Q .non (upd H' p (.ins N dx (nf x y g b)))
section
variable {P : Program} {w : World} {K : PySem.W.Frag} {mg : Str → Option Value} {base : Heap}
theorem scNInit : FnScope ["self", "name", "ware", "grains", "born"] ["self", "name", "ware", "grains", "born"] (defScope sNInit) := ⟨rfl, rfl, rfl, by decide +kernel, rfl, by decide +kernel, by decide +kernel⟩
abbrev FunN (K : PySem.W.Frag) (f : Addr) (fd : FuncData) : Prop := FunD K "__init__" "Note.__init__" (defArgs sNInit) (defBody sNInit) (defScope sNInit) [.int 0] [] f fd
theorem ok_ninit {f N fNm fGr fDy : Addr} {fd dNm dGr dDy : FuncData} (F : FunN K f fd) (T : NTxt K mg N) (cNm : Cl K mg "is_name" fNm dNm ["thing"]) (GNm : FnOk P w K mg base CX0 2 fNm dNm ["thing"] (spQ K nmV))
    (cGr : Cl K mg "is_grains" fGr dGr ["thing"]) (GGr : FnOk P w K mg base CX0 2 fGr dGr ["thing"] (spQ K grV)) (cDy : Cl K mg "is_day" fDy dDy ["thing"]) (GDy : FnOk P w K mg base CX0 2 fDy dDy ["thing"] (spQ K dyV)) : FnOk P w K mg base CX0 3 f fd ["self", "name", "ware", "grains", "born"] (spNInit N) := by
  refine FunD_ok0 F scNInit (fun vs H Q E h => ?_) (fun cdv A outer s H vs Q E hr h => ?_)
  · obtain ⟨p, dx, x, y, g, b, rfl, _⟩ := h
    rfl
  · obtain ⟨p, dx, x, y, g, b, rfl, hp, ok, k⟩ := h
    refine ⟨_, (pss_cons (ps_if (pt_not (pt_val (pe_call GNm (hr.mono (by decide)) (by rfl) cNm.g cNm.k cNm.b .nil pass0 (pa_cons (pv 1) pa_nil)))) (pss_one ps_never) pss_nil)
    (pss_cons (ps_if (pt_not (pt_val (pe_call GNm (hr.mono (by decide)) (by rfl) cNm.g cNm.k cNm.b .nil pass0 (pa_cons (pv 2) pa_nil)))) (pss_one ps_never) pss_nil)
    (pss_cons (ps_if (pt_not (pt_val (pe_call GGr (hr.mono (by decide)) (by rfl) cGr.g cGr.k cGr.b .nil pass0 (pa_cons (pv 3) pa_nil)))) (pss_one ps_never) pss_nil)
    (pss_cons (ps_if (pt_not (pt_val (pe_call GDy (hr.mono (by decide)) (by rfl) cDy.g cDy.k cDy.b .nil pass0 (pa_cons (pv 4) pa_nil)))) (pss_one ps_never) pss_nil)
    (pss_cons (ps_fld (pv 0) (pv 1) rfl)
    (pss_cons (ps_fld (pv 0) (pv 2) rfl)
    (pss_cons (ps_fld (pv 0) (pv 3) rfl)
    (pss_one (ps_fld (pv 0) (pv 4) rfl))))))))), ?_⟩
    have lx := (nm_len ok.mx).2
    have ly := (nm_len ok.my).2
    have hg : grV (.int g) = true := decide_eq_true ok.g
    have hb : dyV (.int b) = true := by
      show (decide (0 ≤ b) && decide (b ≤ 1200)) = true
      rw [decide_eq_true ok.b0, decide_eq_true ok.b1]
      rfl
    refine ⟨_, rfl, _, rfl, wh_str, ws_str, tok_str ok.ax (by omega), fun H1 s1 => ⟨_, rfl, ?_⟩⟩
    rw [ok.mx]
    refine iteF ⟨_, rfl, _, rfl, wh_str, ws_str, tok_str ok.ay (by omega), fun H2 s2 => ⟨_, rfl, ?_⟩⟩
    rw [ok.my]
    refine iteF ⟨_, rfl, _, rfl, wh_int, ws_int, tok_int, fun H3 s3 => ⟨_, rfl, ?_⟩⟩
    rw [hg]
    refine iteF ⟨_, rfl, _, rfl, wh_int, ws_int, tok_int, fun H4 s4 => ⟨_, rfl, ?_⟩⟩
    rw [hb]
    refine iteF ?_
    have sA := ((s1.trans s2).trans s3).trans s4
    have hp4 := sA _ _ hp
    refine ⟨_, rfl, _, rfl, p, N, dx, _, rfl, hp4, T.cl, T.nN, (by show 0 < 1000; decide), ?_⟩
    refine ⟨_, rfl, _, rfl, p, N, dx, _, rfl, upd_same, T.cl, T.nW, (by show 1 < 1000; decide), ?_⟩
    refine ⟨_, rfl, _, rfl, p, N, dx, _, rfl, upd_same, T.cl, T.nG, (by show 2 < 1000; decide), ?_⟩
    refine ⟨_, rfl, _, rfl, p, N, dx, _, rfl, upd_same, T.cl, T.nB, (by show 3 < 1000; decide), ?_⟩
    show Q .non (upd (upd (upd (upd H4 p _) p _) p _) p _)
    rw [upd_upd, upd_upd, upd_upd]
    exact k H4 sA
/-- a Note's text -/
def nR (x y : Str) (g b : Int) : Str := "Note(" ++ reprText x ++ ", " ++ reprText y ++ ", " ++ nT g ++ ", " ++ nT b ++ ")"
def spNRepr (N : Addr) : Sp := fun vs H Q _ => ∃ (p : Addr) (x y : Str) (g b : Int), vs = [.ref p] ∧ NAt N H p x y g b ∧ NOkV x y g b ∧ Sz 1600 g ∧ ∀ H', Same H H' → Q (.str (nR x y g b)) H'
theorem emp1 (x : Str) : Str.empty ++ x = x := TL.ext_tl (by rw [TL.tl_append]; rfl)
theorem scNRepr : FnScope ["self"] ["self"] (defScope sNRepr) := ⟨rfl, rfl, rfl, by decide +kernel, rfl, by decide +kernel, by decide +kernel⟩
theorem ok_nrepr {f N fS : Addr} {fd fdS : FuncData} (F : Fun K "__repr__" "Note.__repr__" sNRepr f fd) (T : NTxt K mg N) (cS : Cl K mg "show_whole" fS fdS ["number"]) (GS : FnOk P w K mg base CX0 1 fS fdS ["number"] spShow) :
    FnOk P w K mg base CX0 2 f fd ["self"] (spNRepr N) := by
  refine F.ok scNRepr (fun vs H Q E h => ?_) (fun cdv A outer s H vs Q E hr h => ?_)
  · obtain ⟨p, x, y, g, b, rfl, _⟩ := h
    rfl
  · obtain ⟨p, x, y, g, b, rfl, ⟨dx, hp⟩, ok, zg, k⟩ := h
    refine ⟨_, (pss_one (ps_ret (pe_joined (.cons pe_str (.cons (pe_fmtR (pe_fld (pv 0) rfl)) (.cons pe_str (.cons (pe_fmtR (pe_fld (pv 0) rfl)) (.cons pe_str (.cons (pe_fmt (pe_call GS (hr.mono (by decide)) (by rfl) cS.g cS.k cS.b .nil pass0 (pa_cons (pe_fld (pv 0) rfl) pa_nil))) (.cons pe_str (.cons (pe_fmt (pe_fld (pv 0) rfl)) (.cons pe_str .nil)))))))))))), ?_⟩
    have lx := (nm_len ok.mx).2
    have ly := (nm_len ok.my).2
    have rx := StrLaws.reprText_len x fun c hc => Nat.lt_trans (ok.ax c hc) (by decide)
    have ry := StrLaws.reprText_len y fun c hc => Nat.lt_trans (ok.ay c hc) (by decide)
    have lg := nT_len zg
    have zb : Sz 1600 b := Sz.mono (a := 20) (by have := ok.b0; have := ok.b1; unfold Sz; omega) (by decide)
    have lb := nT_len zb
    have e1 : ("Note(" : Str).length = 5 := by decide +kernel
    have e2 : (", " : Str).length = 2 := by decide +kernel
    have e3 : (")" : Str).length = 1 := by decide +kernel
    have e4 : (Str.empty : Str).length = 0 := by decide +kernel
    have big : ∀ n, n ≤ 10000 → n ≤ sizeLine := fun n h => Nat.le_trans h (by decide)
    refine ⟨"Note(", rfl, big _ (by simp only [append_len]; omega), _, rfl, p, N, dx, _, _, rfl, hp, T.cl, T.nN, nf_name _ _ _ _, .inl ⟨_, rfl, big _ (by omega), reprText x, rfl, big _ (by simp only [append_len]; omega), ", ", rfl, big _ (by simp only [append_len]; omega), ?_⟩⟩
    refine ⟨_, rfl, p, N, dx, _, _, rfl, hp, T.cl, T.nW, nf_ware _ _ _ _, .inl ⟨_, rfl, big _ (by omega), reprText y, rfl, big _ (by simp only [append_len]; omega), ", ", rfl, big _ (by simp only [append_len]; omega), ?_⟩⟩
    refine ⟨_, rfl, p, N, dx, _, _, rfl, hp, T.cl, T.nG, nf_grains _ _ _ _, g, rfl, by have := ok.g; omega, zg, fun H1 s1 => .inl ⟨_, rfl, big _ (by omega), nT g, rfl, big _ (by simp only [append_len]; omega), ", ", rfl, big _ (by simp only [append_len]; omega), ?_⟩⟩
    refine ⟨_, rfl, p, N, dx, _, _, rfl, s1 _ _ hp, T.cl, T.nB, nf_born _ _ _ _, .inr ⟨b, rfl, Nat.lt_trans (zb.log (by decide)) (by decide), nT b, rfl, big _ (by simp only [append_len]; omega), ")", rfl, big _ (by simp only [append_len]; omega), ?_⟩⟩
    have q := k H1 s1
    have ew : nR x y g b = Str.empty ++ "Note(" ++ reprText x ++ ", " ++ reprText y ++ ", " ++ nT g ++ ", " ++ nT b ++ ")" := by rw [emp1]; rfl
    rw [ew] at q
    exact q
end
abbrev N4 := Str × Str × Int × Int
abbrev nD (N : Addr) (n : N4) : D := .ins N [(("name" : Str), .str n.1), (("ware" : Str), .str n.2.1), (("grains" : Str), .int n.2.2.1), (("born" : Str), .int n.2.2.2)]
abbrev NOk (n : N4) : Prop := NOkV n.1 n.2.1 n.2.2.1 n.2.2.2
theorem nf_eq (x y : Str) (g b : Int) : nf x y g b = [(("name" : Str), V.str x), (("ware" : Str), V.str y), (("grains" : Str), V.int g), (("born" : Str), V.int b)] := by
  have e1 : ¬ (("name" : Str) = "ware") := by decide +kernel
  have e2 : ¬ (("name" : Str) = "grains") := by decide +kernel
  have e3 : ¬ (("name" : Str) = "born") := by decide +kernel
  have e4 : ¬ (("ware" : Str) = "grains") := by decide +kernel
  have e5 : ¬ (("ware" : Str) = "born") := by decide +kernel
  have e6 : ¬ (("grains" : Str) = "born") := by decide +kernel
  unfold nf
  simp only [putF, if_neg e1, if_neg e2, if_neg e3, if_neg e4, if_neg e5, if_neg e6]
theorem nD_name {x y : Str} {g b : Int} : ([(("name" : Str), D.str x), (("ware" : Str), .str y), (("grains" : Str), .int g), (("born" : Str), .int b)] : List (Str × D)).lookup ("name" : Str) = some (.str x) := by
  have e : (("name" : Str) == "name") = true := by decide +kernel
  simp only [List.lookup, e]
theorem nD_ware {x y : Str} {g b : Int} : ([(("name" : Str), D.str x), (("ware" : Str), .str y), (("grains" : Str), .int g), (("born" : Str), .int b)] : List (Str × D)).lookup ("ware" : Str) = some (.str y) := by
  have e : (("ware" : Str) == "name") = false := by decide +kernel
  have e2 : (("ware" : Str) == "ware") = true := by decide +kernel
  simp only [List.lookup, e, e2]
theorem nD_grains {x y : Str} {g b : Int} : ([(("name" : Str), D.str x), (("ware" : Str), .str y), (("grains" : Str), .int g), (("born" : Str), .int b)] : List (Str × D)).lookup ("grains" : Str) = some (.int g) := by
  have e : (("grains" : Str) == "name") = false := by decide +kernel
  have e2 : (("grains" : Str) == "ware") = false := by decide +kernel
  have e3 : (("grains" : Str) == "grains") = true := by decide +kernel
  simp only [List.lookup, e, e2, e3]
theorem nD_born {x y : Str} {g b : Int} : ([(("name" : Str), D.str x), (("ware" : Str), .str y), (("grains" : Str), .int g), (("born" : Str), .int b)] : List (Str × D)).lookup ("born" : Str) = some (.int b) := by
  have e : (("born" : Str) == "name") = false := by decide +kernel
  have e2 : (("born" : Str) == "ware") = false := by decide +kernel
  have e3 : (("born" : Str) == "grains") = false := by decide +kernel
  have e4 : (("born" : Str) == "born") = true := by decide +kernel
  simp only [List.lookup, e, e2, e3, e4]
theorem se_mkN {K : PySem.W.Frag} {N : Addr} {E : XK} {t : TA} {r : TDA} {c : Nat} (h : SA K c t r) : SE K c (tMake N (spNInit N) [] E t) (fun δ Q => r δ fun xs => ∃ n : N4, xs = [.d (.str n.1), .d (.str n.2.1), .d (.int n.2.2.1), .d (.int n.2.2.2)] ∧ NOk n ∧ Q (.d (nD N n))) :=
  se_mk (ρ := fun xs Q => ∃ n : N4, xs = [.d (.str n.1), .d (.str n.2.1), .d (.int n.2.2.1), .d (.int n.2.2.2)] ∧ NOk n ∧ Q (nD N n)) h fun H0 H M xs vs Qd w n q => by
  obtain ⟨m, rfl, ok, q⟩ := q
  obtain ⟨v1, ws, rfl, n1, n2⟩ := n
  obtain ⟨v2, ws, rfl, n2, n3⟩ := n2
  obtain ⟨v3, v4, rfl, n3, n4⟩ := dx2 n3
  have n1 := DxStr n1
  have n2 := DxStr n2
  have n3 := DxInt n3
  have n4 := DxInt n4
  subst n1 n2 n3 n4
  refine ⟨[(("name" : Str), V.str m.1), (("ware" : Str), V.str m.2.1), (("grains" : Str), V.int m.2.2.1), (("born" : Str), V.int m.2.2.2)], [(("name" : Str), .str m.1), (("ware" : Str), .str m.2.1), (("grains" : Str), .int m.2.2.1), (("born" : Str), .int m.2.2.2)], ⟨_, _, rfl, rfl, _, _, rfl, rfl, _, _, rfl, rfl, _, _, rfl, rfl, rfl⟩, q,
    fun p dx H1 Q hp sm tb k => ⟨p, dx, m.1, m.2.1, m.2.2.1, m.2.2.2, rfl, hp, ok, fun H2 s2 => ?_⟩⟩
  rw [nf_eq]
  exact k H2 (.of s2)
/-! how Notes are told -/
def ownN : Addr → List (Str × D) → Str
  | _, [(_, .str x), (_, .str y), (_, .int g), (_, .int b)] => nR x y g b
  | _, _ => ""
def goodN (N : Addr) (n : Nat) (C : Addr) (fs : List (Str × D)) : Prop := 3 ≤ n ∧ C = N ∧ ∃ m : N4, fs = [(("name" : Str), .str m.1), (("ware" : Str), .str m.2.1), (("grains" : Str), .int m.2.2.1), (("born" : Str), .int m.2.2.2)] ∧ NOk m ∧ Sz 1600 m.2.2.1
theorem nD_pure {N : Addr} {n : N4} : (nD N n).pure = true := rfl
theorem nsD_pure {N : Addr} (ns : List N4) : D.pureL (ns.map (nD N)) = true := pureL_all.mpr fun d hd => by
  obtain ⟨s, _, rfl⟩ := List.mem_map.mp hd
  rfl
theorem nR_len {x y : Str} {g b : Int} (ok : NOkV x y g b) (zg : Sz 1600 g) : (nR x y g b).length ≤ 5000 := by
  have lx := (nm_len ok.mx).2
  have ly := (nm_len ok.my).2
  have rx := StrLaws.reprText_len x fun c hc => Nat.lt_trans (ok.ax c hc) (by decide)
  have ry := StrLaws.reprText_len y fun c hc => Nat.lt_trans (ok.ay c hc) (by decide)
  have lg := nT_len zg
  have zb : Sz 1600 b := Sz.mono (a := 20) (by have := ok.b0; have := ok.b1; unfold Sz; omega) (by decide)
  have lb := nT_len zb
  have e1 : ("Note(" : Str).length = 5 := by decide +kernel
  have e2 : (", " : Str).length = 2 := by decide +kernel
  have e3 : (")" : Str).length = 1 := by decide +kernel
  unfold nR
  simp only [append_len]
  omega
section
variable {P : Program} {w : World} {K : PySem.W.Frag} {mg : Str → Option Value} {base : Heap}
theorem ow_n {X : Cx} {N fR : Addr} {fdR : FuncData} (hx : Passes CX0 X E0) (GR : FnOk X.prog X.w X.K X.mg X.base CX0 2 fR fdR ["self"] (spNRepr N)) (aR : PySem.W.findIn X.K (.ref N) "__repr__" = some (some (.ref fR))) (iR : PySem.W.isFn X.K (.ref fR) = true) (bR : Binds X.K fdR ["self"] []) : OwnSays X X.K (goodN N) ownN := by
  intro n C fs H v g pu dn
  obtain ⟨hn, rfl, m, rfl, ok, zg⟩ := g
  obtain ⟨a, dx, ws, rfl, hp, u1, _, rfl, n1, u2, _, rfl, n2, u3, _, rfl, n3, u4, _, rfl, n4, rfl⟩ := dn
  have n1 : u1 = .str m.1 := n1
  have n2 : u2 = .str m.2.1 := n2
  have n3 : u3 = .int m.2.2.1 := n3
  have n4 : u4 = .int m.2.2.2 := n4
  subst n1 n2 n3 n4
  rw [← nf_eq] at hp
  refine (says_own (t := nR m.1 m.2.1 m.2.2.1 m.2.2.2) GR aR iR bR hx hp fun H1 s1 => ?_).mono hn fun _ z => nomatch z
  exact ⟨a, m.1, m.2.1, m.2.2.1, m.2.2.2, rfl, ⟨dx, s1 _ _ hp⟩, ok, zg, fun H' s' => ⟨rfl, s'⟩⟩
/-! ### by age -/
end
end K
namespace K
open PySem L2 Rp
variable [TabT]
def πDay : List D → (D → Prop) → Prop := fun ds Q => ds = [.deck] ∧ ∀ n : Int, 0 ≤ n → n ≤ 1200 → Q (.int n)
def πGrains : List D → (D → Prop) → Prop := fun ds Q => ds = [.deck] ∧ ∀ n : Int, 1 ≤ n → n ≤ 1000000 → Q (.int n)
def πLNote (N : Addr) : List D → (D → Prop) → Prop := fun ds Q => ∃ x y : Str, ds = [.deck, .str x, .str y] ∧ nmV (.str x) = true ∧ Asc x ∧ nmV (.str y) = true ∧ Asc y ∧ ∀ g b : Int, 1 ≤ g → g ≤ 1000000 → 0 ≤ b → b ≤ 1200 → Q (nD N (x, y, g, b))
abbrev fD (n : N4) : D := .tup [.str n.1, .str n.2.1, .int n.2.2.1, .int n.2.2.2]
def πFields (N : Addr) : List D → (D → Prop) → Prop := fun ds Q => ∃ n : N4, ds = [nD N n] ∧ Q (fD n)
section
variable {P : Program} {w : World} {K : PySem.W.Frag} {mg : Str → Option Value} {base : Heap}
theorem scDeck : FnScope ["_law_cell"] ["_law_cell"] (defScope sDeck) := ⟨rfl, rfl, rfl, by decide +kernel, rfl, by decide +kernel, by decide +kernel⟩
theorem ok_deck (hcn : TabT.cn = false) {f : Addr} {fd : FuncData} (F : Fun K "_law_deck" "_law_deck" sDeck f fd) (B : Blt mg) : FnOk P w K mg base CX0 1 f fd ["_law_cell"] spDeckN := by
  refine F.ok scDeck (fun vs H Q E h => ?_) (fun cdv A outer s H vs Q E hr h => ?_)
  · obtain ⟨n, rfl, _⟩ := h
    rfl
  · obtain ⟨n, rfl, k⟩ := h
    refine ⟨_, (pss_one (ps_ret (pe_lst (pa_cons (pe_op op_mul (pv 0) (pe_callTy call_int1 (by rfl) B.int (by decide +kernel) (pa_cons (pe_cmpR op_ge (pv 0) (pe_op op_pow pe_int pe_int) (nomark _)) pa_nil))) (pa_cons pe_int (pa_cons (pe_op op_mod (pv 0) pe_int) pa_nil)))))), ?_⟩
    have b01 : ∀ c : Bool, -(2 ^ 64 : Int) < (if c = true then 1 else 0) ∧ (if c = true then 1 else 0) < (2 ^ 64 : Int) := by decide
    refine ⟨_, rfl, _, rfl, _, _, rfl, rfl, (by show (0:Int) ≤ 18 ∧ (18:Int) ≤ 1000000 ∧ (10:Int).natAbs < 2 ^ 64; decide), _, _, rfl, rfl, .inr ⟨_, rfl, _, _, rfl, rfl, .inr (b01 _), _, rfl, _, _, rfl, rfl, (by show (0:Int) < 2147483629; decide), (by show 3 ≤ sizeLine; decide), fun p hp => ?_⟩⟩
    exact k p hp _ ⟨_, _, _, upd_same, fun h => by rw [hcn] at h; cases h⟩ fun b hb => upd_ne hb
theorem scDraw : FnScope ["_law_deck_here", "_law_most", "_law_found", "_law_mixed"] ["_law_deck_here", "_law_most"] (defScope sDraw) := ⟨rfl, rfl, rfl, by decide +kernel, rfl, by decide +kernel, by decide +kernel⟩
theorem ok_draw (hcn : TabT.cn = false) {f : Addr} {fd : FuncData} (F : Fun K "_law_draw" "_law_draw" sDraw f fd) : FnOk P w K mg base CX0 1 f fd ["_law_deck_here", "_law_most"] spDrawN := by
  refine F.ok scDraw (fun vs H Q E h => ?_) (fun cdv A outer s H vs Q E hr h => ?_)
  · obtain ⟨n, d, m, rfl, _⟩ := h
    rfl
  · obtain ⟨n, d, m, rfl, ln, h0, h1, ⟨a, b, c, hd, lb⟩, k⟩ := h
    have no : ∀ (n : Nat) (b : Int), TabT.cn = true → b.natAbs ≤ n := fun n b h => by rw [hcn] at h; cases h
    refine ⟨_, (pss_cons (ps_if (pt_cmpR op_gt (pe_ix ix_list (pv 0) pe_int (fun _ _ => rfl)) pe_int (nomark _)) (pss_cons (ps_set (i := 2) scDraw.nd rfl (Or.inl rfl) (pe_op op_modN (pe_ix ix_list (pv 0) pe_int (fun _ _ => rfl)) (pv 1)))
    (pss_cons (ps_asg (pe_op op_fdivW (pe_ix ix_list (pv 0) pe_int (fun _ _ => rfl)) (pv 1)) (pg_sub (pv 0) pe_int set_list))
    (pss_one (ps_ret (pv 2))))) pss_nil)
    (pss_cons (ps_asg (pe_op op_add (pe_ix ix_list (pv 0) pe_int (fun _ _ => rfl)) pe_int) (pg_sub (pv 0) pe_int set_list))
    (pss_cons (ps_set (i := 3) scDraw.nd rfl (Or.inl rfl) (pe_op op_mod (pe_op op_mul (pe_op op_add (pe_op op_add (pe_ix ix_list (pv 0) pe_int (fun _ _ => rfl)) (pe_op op_mul pe_int (pe_ix ix_list (pv 0) pe_int (fun _ _ => rfl)))) pe_int) pe_int) pe_int))
    (pss_cons (ps_set (i := 3) scDraw.nd rfl (Or.inl rfl) (pe_op op_mod (pe_op op_add (pe_op op_add (pe_op op_mulW (pv 3) (pv 3)) (pe_op op_mul pe_int (pv 3))) (pe_ix ix_list (pv 0) pe_int (fun _ _ => rfl))) pe_int))
    (pss_one (ps_ret (pe_op op_modN (pe_op op_fdiv (pe_op op_mod (pe_op op_mul (pv 3) pe_int) pe_int) pe_int) (pv 1)))))))), ?_⟩
    refine ⟨_, rfl, d, _, _, _, rfl, rfl, SqL.of hd, ix3.1, _, _, rfl, rfl, _, rfl, ?_⟩
    refine ite2 (fun _ => ?_) (fun _ => ?_)
    · refine ⟨_, rfl, d, _, _, _, rfl, rfl, SqL.of hd, ix3.1, _, rfl, _, _, rfl, rfl, (by show m ≠ 0; omega), ?_⟩
      refine ⟨_, rfl, d, _, _, _, rfl, rfl, SqL.of hd, ix3.1, _, rfl, _, _, rfl, rfl, wide_div (b := 31) h0 (by omega) (by decide) (by decide), ?_⟩
      refine ⟨_, rfl, d, _, _, 0, rfl, rfl, hd, rfl, ?_⟩
      refine ⟨_, rfl, ?_⟩
      exact k _ (Int.fmod_nonneg_of_pos a h0) (Int.fmod_lt_of_pos a h0) _ ⟨_, _, _, upd_same, no _ _⟩ fun b hb => upd_ne hb
    · refine ⟨_, rfl, d, _, _, _, rfl, rfl, SqL.of hd, ix3.2.1, _, _, rfl, rfl, ?_⟩
      refine ⟨_, rfl, d, _, _, 1, rfl, rfl, hd, rfl, ?_⟩
      have hd2 : (upd H d (.lst ([V.int a, V.int b, V.int c].set 1 (.int (b + 1))))) d = some (.lst [.int a, .int (b + 1), .int c]) := upd_same
      refine ⟨_, rfl, d, _, _, _, rfl, rfl, SqL.of hd2, ix3.2.2, _, rfl, d, _, _, _, rfl, rfl, SqL.of hd2, ix3.2.1, _, _, rfl, rfl, .inl (by decide), _, _, rfl, rfl, _, _, rfl, rfl, _, _, rfl, rfl, .inr (by decide), _, _, rfl, rfl, (by show (0:Int) < 2147483647; decide), ?_⟩
      have hm : ∀ z : Int, 0 ≤ z % 2147483647 ∧ z % 2147483647 < 2147483647 := fun z => ⟨Int.emod_nonneg _ (by decide), Int.emod_lt_of_pos _ (by decide)⟩
      have hx := hm ((c + 15485863 * (b + 1) + 7) * 48271)
      have w31 : ∀ z : Int, 0 ≤ z → z < 2147483648 → CMulW z z := fun z h0 h1 => wide_mul (a := 31) (b := 31) (by omega) (by omega) (by decide) (by decide) (by decide)
      refine ⟨_, rfl, _, rfl, _, _, rfl, rfl, w31 _ hx.1 (by omega), _, rfl, _, _, rfl, rfl, .inl (by decide), _, _, rfl, rfl, _, rfl, d, _, _, _, rfl, rfl, SqL.of hd2, ix3.2.1, _, _, rfl, rfl, _, _, rfl, rfl, (by show (0:Int) < 2147483587; decide), ?_⟩
      refine ⟨_, rfl, _, _, rfl, rfl, .inr (by decide), _, _, rfl, rfl, (by show (0:Int) < 2147483563; decide), _, _, rfl, rfl, ⟨by decide, by decide⟩, _, rfl, _, _, rfl, rfl, (by show m ≠ 0; omega), ?_⟩
      exact k _ (Int.fmod_nonneg_of_pos _ h0) (Int.fmod_lt_of_pos _ h0) _ ⟨_, _, _, hd2, no _ _⟩ fun b hb => upd_ne hb
theorem scLDay : FnScope ["_law_deck_here", "_law_way", "_law_near"] ["_law_deck_here"] (defScope sLDay) := ⟨rfl, rfl, rfl, by decide +kernel, rfl, by decide +kernel, by decide +kernel⟩
theorem od_lday {f fD : Addr} {fd fdD : FuncData} (F : Fun K "_law_day" "_law_day" sLDay f fd) (cD : Cl K mg "_law_draw" fD fdD ["_law_deck_here", "_law_most"]) (GD : FnOk P w K mg base CX0 1 fD fdD ["_law_deck_here", "_law_most"] (spD K 1 πDraw)) : FnOk P w K mg base CX0 2 f fd ["_law_deck_here"] (spD K 10 πDay) := by
  refine okD F scLDay (fun ds Q h => ?_) (fun cdv A outer s H E hr => ?_)
  · obtain ⟨rfl, _⟩ := h
    rfl
  · refine ⟨_, _, _, (pss_cons (ps_set (i := 1) scLDay.nd rfl (Or.inl rfl) (pe_call GD (hr.mono (by decide)) (by rfl) cD.g cD.k cD.b .nil pass0 (pa_cons (pv 0) (pa_cons pe_int pa_nil))))
    (pss_cons (ps_set (i := 2) scLDay.nd rfl (Or.inl rfl) (pe_ix ix_list (pe_lst (pa_cons pe_int (pa_cons pe_int (pa_cons pe_int (pa_cons pe_int (pa_cons pe_int (pa_cons pe_int (pa_cons pe_int (pa_cons pe_int (pa_cons pe_int pa_nil)))))))))) (pe_call GD (hr.mono (by decide)) (by rfl) cD.g cD.k cD.b .nil pass0 (pa_cons (pv 0) (pa_cons pe_int pa_nil))) (fun _ _ => rfl)))
    (pss_one (ps_ret (pe_ix ix_list (pe_lst (pa_cons (pv 2) (pa_cons (pv 2) (pa_cons (pe_call GD (hr.mono (by decide)) (by rfl) cD.g cD.k cD.b .nil pass0 (pa_cons (pv 0) (pa_cons pe_int pa_nil))) (pa_cons (pe_call GD (hr.mono (by decide)) (by rfl) cD.g cD.k cD.b .nil pass0 (pa_cons (pv 0) (pa_cons pe_int pa_nil))) pa_nil))))) (pv 1) (fun _ _ => rfl)))))), (ss_seq (ss_set 1 (se_callN (sa_cons (se_var 0) (sa_cons se_int sa_nil))))
    (ss_seq (ss_set 2 (se_op sr_ixL (SF.se (sf_lst (sa_cons se_int (sa_cons se_int (sa_cons se_int (sa_cons se_int (sa_cons se_int (sa_cons se_int (sa_cons se_int (sa_cons se_int (sa_cons se_int sa_nil))))))))))) (se_callN (sa_cons (se_var 0) (sa_cons se_int sa_nil)))))
    (ss_ret (se_op sr_ixL (SF.se (sf_lst (sa_cons (se_var 2) (sa_cons (se_var 2) (sa_cons (se_callN (sa_cons (se_var 0) (sa_cons se_int sa_nil))) (sa_cons (se_callN (sa_cons (se_var 0) (sa_cons se_int sa_nil))) sa_nil)))))) (se_var 1))))), (by decide), ?_⟩
    rintro ds Q ⟨rfl, k⟩
    refine ⟨4, rfl, by decide, by decide, fun q q0 q1 => ⟨by show 9 ≤ sizeLine; decide, 9, rfl, by decide, by decide, fun r r0 r1 => ?_⟩⟩
    obtain ⟨v, hv, v0, v1⟩ : ∃ v : Int, L2.atI ([.int 0, .int 1, .int 29, .int 30, .int 31, .int 59, .int 60, .int 1199, .int 1200] : List D) r = some (.int v) ∧ 0 ≤ v ∧ v ≤ 1200 := by
      obtain ⟨j, rfl⟩ : ∃ j : Nat, r = (j : Int) := ⟨r.toNat, by omega⟩
      rcases j with _ | _ | _ | _ | _ | _ | _ | _ | _ | j
      all_goals first | exact ⟨_, atI_nat rfl, by decide, by decide⟩ | omega
    refine ⟨_, r, _, rfl, rfl, hv, 1201, rfl, by decide, by decide, fun u u0 u1 => ⟨4, rfl, by decide, by decide, fun t t0 t1 => ⟨sl4, ?_⟩⟩⟩
    obtain ⟨z, hz, z0, z1⟩ : ∃ z : Int, L2.atI ([.int v, .int v, .int u, .int t] : List D) q = some (.int z) ∧ 0 ≤ z ∧ z ≤ 1200 := by
      obtain ⟨j, rfl⟩ : ∃ j : Nat, q = (j : Int) := ⟨q.toNat, by omega⟩
      rcases j with _ | _ | _ | _ | j
      all_goals first | exact ⟨_, atI_nat rfl, by omega, by omega⟩ | omega
    exact ⟨_, q, _, rfl, rfl, hz, k z z0 z1⟩
theorem scLGrains : FnScope ["_law_deck_here"] ["_law_deck_here"] (defScope sLGrains) := ⟨rfl, rfl, rfl, by decide +kernel, rfl, by decide +kernel, by decide +kernel⟩
theorem od_lgrains {f fD : Addr} {fd fdD : FuncData} (F : Fun K "_law_grains" "_law_grains" sLGrains f fd) (cD : Cl K mg "_law_draw" fD fdD ["_law_deck_here", "_law_most"]) (GD : FnOk P w K mg base CX0 1 fD fdD ["_law_deck_here", "_law_most"] (spD K 1 πDraw)) : FnOk P w K mg base CX0 2 f fd ["_law_deck_here"] (spD K 10 πGrains) := by
  refine okD F scLGrains (fun ds Q h => ?_) (fun cdv A outer s H E hr => ?_)
  · obtain ⟨rfl, _⟩ := h
    rfl
  · refine ⟨_, _, _, (pss_one (ps_ret (pe_ix ix_list (pe_lst (pa_cons (pe_op op_add pe_int (pe_call GD (hr.mono (by decide)) (by rfl) cD.g cD.k cD.b .nil pass0 (pa_cons (pv 0) (pa_cons pe_int pa_nil)))) (pa_cons (pe_op op_add pe_int (pe_call GD (hr.mono (by decide)) (by rfl) cD.g cD.k cD.b .nil pass0 (pa_cons (pv 0) (pa_cons pe_int pa_nil)))) (pa_cons (pe_op op_add pe_int (pe_call GD (hr.mono (by decide)) (by rfl) cD.g cD.k cD.b .nil pass0 (pa_cons (pv 0) (pa_cons (pe_op op_pow pe_int pe_int) pa_nil)))) pa_nil)))) (pe_call GD (hr.mono (by decide)) (by rfl) cD.g cD.k cD.b .nil pass0 (pa_cons (pv 0) (pa_cons pe_int pa_nil))) (fun _ _ => rfl)))), (ss_ret (se_op sr_ixL (SF.se (sf_lst (sa_cons (se_op sr_add se_int (se_callN (sa_cons (se_var 0) (sa_cons se_int sa_nil)))) (sa_cons (se_op sr_add se_int (se_callN (sa_cons (se_var 0) (sa_cons se_int sa_nil)))) (sa_cons (se_op sr_add se_int (se_callN (sa_cons (se_var 0) (sa_cons (se_op sr_pow se_int se_int) sa_nil)))) sa_nil))))) (se_callN (sa_cons (se_var 0) (sa_cons se_int sa_nil))))), (by decide), ?_⟩
    rintro ds Q ⟨rfl, k⟩
    refine ⟨9, rfl, by decide, by decide, fun q q0 q1 => ⟨300, rfl, by decide, by decide, fun r r0 r1 => ⟨by show (0:Int) ≤ 6 ∧ (6:Int) ≤ 1000000 ∧ (10:Int).natAbs < 2 ^ 64; decide, _, rfl, by decide, by decide, fun u u0 u1 => ⟨sl3, 3, rfl, by decide, by decide, fun t t0 t1 => ?_⟩⟩⟩⟩
    have u1 : u < 1000000 := u1
    obtain ⟨z, hz, z0, z1⟩ : ∃ z : Int, L2.atI ([.int (1 + q), .int (1 + r), .int (1 + u)] : List D) t = some (.int z) ∧ 1 ≤ z ∧ z ≤ 1000000 := by
      obtain ⟨j, rfl⟩ : ∃ j : Nat, t = (j : Int) := ⟨t.toNat, by omega⟩
      rcases j with _ | _ | _ | j
      all_goals first | exact ⟨_, atI_nat rfl, by omega, by omega⟩ | omega
    exact ⟨_, t, _, rfl, rfl, hz, k z z0 z1⟩
end
end K
namespace K
open PySem L2 Rp
variable [TabT]
def πNames : List D → (D → Prop) → Prop := fun ds Q => ∃ n : Nat, ds = [.deck, .int (n : Nat)] ∧ n ≤ 26 ∧ ∀ xs : List Str, xs.length = n → xs.Nodup → (∀ x ∈ xs, nmV (.str x) = true ∧ Asc x) → Q (.lst (xs.map D.str))
/-- letters by their places, as texts -/
abbrev wsD (w : List Nat) : List D := w.map fun j => D.str (lt1 j)
theorem letters_of : ∀ acc : List D, (∀ y ∈ acc, ∃ j : Nat, j < 26 ∧ y = .str (lt1 j)) → ∃ w : List Nat, acc = wsD w ∧ ∀ j ∈ w, j < 26
  | [], _ => ⟨[], rfl, fun _ h => (nomatch h)⟩
  | y :: r, h => by
    obtain ⟨j, hj, rfl⟩ := h y List.mem_cons_self
    obtain ⟨w, rfl, hw⟩ := letters_of r fun z hz => h z (List.mem_cons_of_mem _ hz)
    exact ⟨j :: w, rfl, fun i hi => by
      rcases List.mem_cons.mp hi with rfl | hi
      · exact hj
      · exact hw i hi⟩
theorem lets_ix {j : Nat} (h : j < 26) : L2.atI (LETS : Str).cps.toList (j : Int) = some (97 + j) := atI_nat (lets_at j h).1
theorem R_all {R : D → Prop} {ds acc : List D} (la : acc.length = ds.length) (h : ∀ (k : Nat) (d y : D), ds[k]? = some d → acc[k]? = some y → R y) : ∀ y ∈ acc, R y := fun y hy => by
  obtain ⟨i, hi, rfl⟩ := List.getElem_of_mem hy
  exact h i ds[i] acc[i] (List.getElem?_eq_getElem (by omega)) (List.getElem?_eq_getElem hi)
theorem cutD_mid (xs : List D) (a b : Nat) : cutD xs (some (a : Int)) (some (b : Int)) = (xs.drop a).take (b - a) := by
  unfold cutD
  rw [HT.sIx_nat, HT.sIx_nat]
  by_cases ha : a ≤ xs.length
  · rw [Nat.min_eq_left ha]
    by_cases hb : b ≤ xs.length
    · rw [Nat.min_eq_left hb]
    · rw [Nat.min_eq_right (show xs.length ≤ b by omega), List.take_of_length_le (by rw [List.length_drop]; omega), List.take_of_length_le (by rw [List.length_drop]; omega)]
  · rw [Nat.min_eq_right (show xs.length ≤ a by omega), List.drop_of_length_le (Nat.le_refl _), List.drop_of_length_le (by omega), List.take_nil, List.take_nil]
theorem wsD_cut (w : List Nat) (k : Nat) : cutD (wsD w) none (some (k : Int)) = wsD (w.take k) := by rw [cutD_to]; exact List.map_take.symm
theorem wsD_mid (w : List Nat) (a b : Nat) : cutD (wsD w) (some (a : Int)) (some (b : Int)) = wsD ((w.drop a).take (b - a)) := by
  rw [cutD_mid]
  show _ = (((w.drop a).take (b - a)).map fun j => D.str (lt1 j))
  rw [List.map_take, List.map_drop]
/-- a word with one letter otherwise -/
def putW (w : List Nat) (a z l : Nat) : List Nat := w.take a ++ [l] ++ (w.drop (a + 1)).take (z - (a + 1))
theorem putW_len {w : List Nat} {a z l : Nat} (h : z ≤ w.length) (ha : a < z) : (putW w a z l).length = z := by
  unfold putW
  rw [List.length_append, List.length_append, List.length_take, List.length_take, List.length_drop]
  show min a w.length + 1 + min (z - (a + 1)) (w.length - (a + 1)) = z
  omega
theorem putW_at {w : List Nat} {a z l : Nat} (h : z ≤ w.length) (ha : a < z) : (putW w a z l)[a]? = some l := by
  have ht : (w.take a).length = a := by rw [List.length_take]; omega
  unfold putW
  rw [List.append_assoc, List.getElem?_append_right (by omega), ht, Nat.sub_self]
  rfl
theorem putW_ok {w : List Nat} {a z l : Nat} (hw : ∀ j ∈ w, j < 26) (hl : l < 26) : ∀ j ∈ putW w a z l, j < 26 := fun j hj => by
  rcases List.mem_append.mp hj with hj | hj
  · rcases List.mem_append.mp hj with hj | hj
    · exact hw j (List.mem_of_mem_take hj)
    · rw [List.mem_singleton.mp hj]; exact hl
  · exact hw j (List.mem_of_mem_drop (List.mem_of_mem_take hj))
theorem lt1_le {w : List Nat} (h : w.length ≤ 20) : ((w.map lt1).map (·.length)).sum + (w.map lt1).length * (Str.ofString "").length ≤ 16777216 := by
  rw [lt1_sum, List.length_map, show (Str.ofString "").length = 0 from rfl]
  omega
theorem by_else {G X : Prop} (e : G) (f : G → X) : X := f e
section
variable {P : Program} {w : World} {K : PySem.W.Frag} {mg : Str → Option Value} {base : Heap}
theorem scLNames : FnScope ["_law_deck_here", "_law_many", "_law_letters", "_law_way", "_law_size", "_law_at", "_law_first", "_law_k", "_law_base", "_law_found", "_law_letter"] ["_law_deck_here", "_law_many"] (defScope sLNames) := ⟨rfl, rfl, rfl, by decide +kernel, rfl, by decide +kernel, by decide +kernel⟩
theorem od_lnames {f fD : Addr} {fd fdD : FuncData} (F : Fun K "_law_names" "_law_names" sLNames f fd) (hrg : mg "range" = none) (cD : Cl K mg "_law_draw" fD fdD ["_law_deck_here", "_law_most"]) (GD : FnOk P w K mg base CX0 1 fD fdD ["_law_deck_here", "_law_most"] (spD K 1 πDraw)) : FnOk P w K mg base CX0 2 f fd ["_law_deck_here", "_law_many"] (spD K 1000000000 πNames) := by
  refine okD F scLNames (fun ds Q h => ?_) (fun cdv A outer s H E hr => ?_)
  · obtain ⟨n, rfl, _⟩ := h
    rfl
  · refine ⟨_, _, _, (pss_cons (ps_set (i := 2) scLNames.nd rfl (Or.inr rfl) pe_str)
    (pss_cons (ps_set (i := 3) scLNames.nd rfl (Or.inl rfl) (pe_call GD (hr.mono (by decide)) (by rfl) cD.g cD.k cD.b .nil pass0 (pa_cons (pv 0) (pa_cons pe_int pa_nil))))
    (pss_cons (ps_set (i := 4) scLNames.nd rfl (Or.inl rfl) (pe_op op_add pe_int (pe_call GD (hr.mono (by decide)) (by rfl) cD.g cD.k cD.b .nil pass0 (pa_cons (pv 0) (pa_cons pe_int pa_nil)))))
    (pss_cons (ps_set (i := 5) scLNames.nd rfl (Or.inl rfl) (pe_call GD (hr.mono (by decide)) (by rfl) cD.g cD.k cD.b .nil pass0 (pa_cons (pv 0) (pa_cons (pv 4) pa_nil))))
    (pss_cons (ps_set (i := 6) scLNames.nd rfl (Or.inl rfl) (pe_call GD (hr.mono (by decide)) (by rfl) cD.g cD.k cD.b .nil pass0 (pa_cons (pv 0) (pa_cons pe_int pa_nil))))
    (pss_cons (ps_set (i := 8) scLNames.nd rfl (Or.inr rfl) (pe_lc (own := [("_law_k", 7)]) (g := gName 7) (tt := tYes) (by rfl) scLNames.nd (pi_range1 (by rfl) hrg (pa_cons pe_int pa_nil)) (blkOk_by (own := [("_law_k", 7)]) (N := ["_law_deck_here", "_law_many", "_law_letters", "_law_way", "_law_size", "_law_at", "_law_first", "_law_k", "_law_base", "_law_found", "_law_letter"]) (sc := defScope sLNames) (by decide +kernel)) (fun _ _ _ _ _ => (pg_name (i := 7) scLNames.nd rfl (Or.inl rfl))) (fun _ _ _ _ _ => pts_nil) (fun _ _ _ _ _ => (pe_ix ix_str (pv 2) (pe_call GD (hr.mono (by decide)) (by rfl) cD.g cD.k cD.b .nil pass0 (pa_cons (pv 0) (pa_cons pe_int pa_nil))) (fun _ _ => rfl)))))
    (pss_cons (ps_if (PW.pt (pw_and (pt_cmpR op_eq (pv 3) pe_int (nomark _)) (pw_and1 (pt_cmpR op_lt (pv 1) pe_int (nomark _))))) (pss_one (ps_ret (pe_lc (own := [("_law_k", 7)]) (g := gName 7) (tt := tYes) (by rfl) scLNames.nd (pi_range1 (by rfl) hrg (pa_cons (pv 1) pa_nil)) (blkOk_by (own := [("_law_k", 7)]) (N := ["_law_deck_here", "_law_many", "_law_letters", "_law_way", "_law_size", "_law_at", "_law_first", "_law_k", "_law_base", "_law_found", "_law_letter"]) (sc := defScope sLNames) (by decide +kernel)) (fun _ _ _ _ _ => (pg_name (i := 7) scLNames.nd rfl (Or.inl rfl))) (fun _ _ _ _ _ => pts_nil) (fun _ _ _ _ _ => (pe_joinK (Kf := K) rfl pe_str (pe_slice (sl_listK (K := K) rfl) (pv 8) po_none (po_some (pe_op op_add (pv 7) pe_int)))))))) pss_nil)
    (pss_cons (ps_set (i := 9) scLNames.nd rfl (Or.inl rfl) (pe_lst pa_nil))
    (pss_cons (ps_for PassesOwn.never rfl (pi_range1 (by rfl) hrg (pa_cons (pv 1) pa_nil)) (pg_name (i := 7) scLNames.nd rfl (Or.inl rfl))
      (pss_cons (ps_set (i := 10) scLNames.nd rfl (Or.inl rfl) (pe_ix ix_str (pv 2) (pe_op op_mod (pe_op op_add (pv 6) (pv 7)) pe_int) (fun _ _ => rfl)))
    (pss_one (ps_expr (pe_bm PySem.F.plainAttrs_list PySem.F.slot_list_append PySem.F.type_list_append mt_append (pv 9) (pa_cons (pe_join pe_str (pe_op op_cat (pe_op op_cat (pe_slice sl_list (pv 8) po_none (po_some (pv 5))) (pe_lst (pa_cons (pv 10) pa_nil))) (pe_slice sl_list (pv 8) (po_some (pe_op op_add (pv 5) pe_int)) (po_some (pv 4))))) pa_nil))))))
    (pss_one (ps_ret (pv 9)))))))))))), (ss_seq (ss_set 2 se_str)
    (ss_seq (ss_set 3 (se_callN (sa_cons (se_var 0) (sa_cons se_int sa_nil))))
    (ss_seq (ss_set 4 (se_op sr_add se_int (se_callN (sa_cons (se_var 0) (sa_cons se_int sa_nil)))))
    (ss_seq (ss_set 5 (se_callN (sa_cons (se_var 0) (sa_cons (se_var 4) sa_nil))))
    (ss_seq (ss_set 6 (se_callN (sa_cons (se_var 0) (sa_cons se_int sa_nil))))
    (ss_seq (ss_set 8 (SF.se (sf_lcR (SI.toB (si_rng1 (sa_cons se_int sa_nil))) (sg_name 7) (by decide) st_yes (se_op sr_ixS (se_var 2) (se_callN (sa_cons (se_var 0) (sa_cons se_int sa_nil)))))))
    (ss_seq (ss_if (st_and (st_test (se_op sr_eq (se_var 3) se_int)) (st_test (se_op sr_lt (se_var 1) se_int))) (ss_ret (SF.se (sf_lcM (SI.toB (si_rng1 (sa_cons (se_var 1) sa_nil))) (sg_name 7) (by decide) st_yes (se_join se_str (SF.se (sf_slL (se_var 8) so_none (so_some (se_op sr_add (se_var 7) se_int)))))))) ss_nil)
    (ss_seq (ss_own 9 (sf_lst sa_nil))
    (ss_seq (ss_for (si_rng1 (sa_cons (se_var 1) sa_nil)) (sg_name 7)
      (ss_seq (ss_set 10 (se_op sr_ixS (se_var 2) (se_op sr_mod (se_op sr_add (se_var 6) (se_var 7)) se_int)))
    (ss_app 9 (se_join se_str (SF.se (sf_catL (SF.se (sf_catL (SF.se (sf_slL (se_var 8) so_none (so_some (se_var 5)))) (SF.se (sf_lst (sa_cons (se_var 10) sa_nil))))) (SF.se (sf_slL (se_var 8) (so_some (se_op sr_add (se_var 5) se_int)) (so_some (se_var 4))))))))))
    (ss_ret (se_var 9))))))))))), (by decide), ?_⟩
    rintro ds Q ⟨n, rfl, n1, k⟩
    refine ⟨3, rfl, by decide, by decide, fun way w0 w1 => ⟨8, rfl, by decide, by decide, fun s0 z0 z1 => ?_⟩⟩
    refine ⟨_, rfl, show 0 < 1 + s0 by omega, show 1 + s0 < 1073741824 by omega, fun at_ a0 a1 => ⟨26, rfl, by decide, by decide, fun fi f0 f1 => ?_⟩⟩
    refine ⟨8, rfl, by decide, by decide, by rw [rngD_len]; decide, fun _ _ y => ∃ j : Nat, j < 26 ∧ y = .str (lt1 j), fun k d e P hP => ⟨fun _ => ⟨26, rfl, by decide, by decide, fun r r0 r1 => ?_⟩, fun z => nomatch z⟩, fun acc la ha => ?_⟩
    · obtain ⟨j, rfl⟩ : ∃ j : Nat, r = (j : Int) := ⟨r.toNat, by omega⟩
      exact ⟨_, _, _, rfl, rfl, by decide +kernel, lets_ix (by omega), hP _ ⟨j, by omega, rfl⟩⟩
    obtain ⟨w, rfl, hw⟩ := letters_of acc (R_all la ha)
    have lw : w.length = 8 := by rw [List.length_map, rngD_len] at la; exact la
    refine by_else ?_ fun e => ⟨rfl, fun h => ⟨fun h2 => ?_, fun _ => e⟩, fun _ => bF rfl e⟩
    rotate_left
    · have n9 : (n : Int) < 9 := of_decide_eq_true h2
      refine ⟨(n : Int), rfl, by omega, by omega, by rw [rngD_len]; exact Nat.lt_of_le_of_lt (show _ ≤ 26 by omega) (by decide), fun d => match d with
        | .int i => .str (nmT (w.take (i + 1).toNat))
        | _ => .non, fun d hd P hP => ⟨fun _ => ?_, fun z => nomatch z⟩, ?_⟩
      · obtain ⟨i, hi, rfl⟩ := List.mem_map.mp hd
        have ei : ((0 : Int) + (i : Nat) + 1) = ((i + 1 : Nat) : Int) := by omega
        have et : ((0 : Int) + (i : Nat) + 1).toNat = i + 1 := by omega
        have hP : P (some (.str (nmT (w.take ((0 : Int) + (i : Nat) + 1).toNat)))) := hP
        rw [et] at hP
        exact ⟨_, rfl, _, rfl, _, rfl, (w.take (i + 1)).map lt1, by rw [ei, wsD_cut, List.map_map]; rfl, lt1_le (by rw [List.length_take]; omega), hP⟩
      · have e : (rngD 0 ((n : Int)).toNat).map (fun d => match d with
          | .int i => D.str (nmT (w.take (i + 1).toNat))
          | _ => .non) = ((List.range n).map fun i => nmT (w.take (i + 1))).map D.str := by
          unfold rngD
          rw [List.map_map, List.map_map, show ((n : Int)).toNat = n by omega]
          refine List.map_congr_left fun i _ => ?_
          show D.str (nmT (w.take ((0 : Int) + (i : Nat) + 1).toNat)) = D.str (nmT (w.take (i + 1)))
          rw [show ((0 : Int) + (i : Nat) + 1).toNat = i + 1 by omega]
        have q := k ((List.range n).map fun i => nmT (w.take (i + 1))) (by rw [List.length_map, List.length_range]) ?_ ?_
        · rw [← e] at q
          exact q
        · refine nodup_map List.nodup_range fun a ha b hb q => ?_
          have ha := List.mem_range.mp ha
          have hb := List.mem_range.mp hb
          have q2 := congrArg List.length (nmT_inj q)
          rw [List.length_take, List.length_take] at q2
          omega
        · intro x hx
          obtain ⟨i, hi, rfl⟩ := List.mem_map.mp hx
          have hi := List.mem_range.mp hi
          exact nmT_nm (fun j hj => hw j (List.mem_of_mem_take hj)) (by rw [List.length_take]; omega) (by rw [List.length_take]; omega)
    obtain ⟨a, rfl⟩ : ∃ a : Nat, at_ = (a : Int) := ⟨at_.toNat, by omega⟩
    obtain ⟨f, rfl⟩ : ∃ f : Nat, fi = (f : Int) := ⟨fi.toNat, by omega⟩
    obtain ⟨z, rfl⟩ : ∃ z : Nat, s0 = (z : Int) := ⟨s0.toNat, by omega⟩
    refine ⟨Nat.zero_le _, (n : Int), rfl, by omega, by omega, by rw [rngD_len]; exact Nat.le_trans (show _ ≤ 26 by omega) (by decide), fun i δ => ∃ u7 u10, δ = [.dat .deck, .dat (.int (n : Nat)), .dat (.str LETS), .dat (.int way), .dat (.int (1 + (z : Nat))), .dat (.int (a : Nat)), .dat (.int (f : Nat)), u7, .dat (.lst (wsD w)), .own (((List.range i).map fun j => nmT (putW w a (1 + z) ((f + j) % 26))).map D.str), u10], ⟨_, _, rfl⟩, ?_, ?_⟩
    · rintro i d δ e ⟨u7, u10, rfl⟩
      obtain ⟨hi, rfl⟩ := rngD_at e
      have ef : ((f : Int) + (0 + (i : Int))) % 26 = (((f + i) % 26 : Nat) : Int) := by omega
      have ea : ((a : Int) + 1) = ((a + 1 : Nat) : Int) := by omega
      have ez : ((1 : Int) + (z : Int)) = ((1 + z : Nat) : Int) := by omega
      refine ⟨(by decide : (0 : Int) < 26), _, _, _, rfl, rfl, by decide +kernel, by rw [ef]; exact lets_ix (Nat.mod_lt _ (by decide)), ?_⟩
      refine ⟨_, rfl, _, rfl, _, rfl, sl1, _, _, rfl, rfl, ?_, _, rfl, _, rfl, _, rfl, _, _, rfl, rfl, ?_, (putW w a (1 + z) ((f + i) % 26)).map lt1, ?_, lt1_le (by rw [putW_len (by omega) (by omega)]; omega), ?_, ?_⟩
      · rw [wsD_cut, List.length_map, List.length_take]
        exact Nat.le_trans (show _ ≤ 20 by show min a w.length + 1 ≤ 20; omega) (by decide)
      · rw [wsD_cut, ea, ez, wsD_mid, List.length_append, List.length_map, List.length_map, List.length_take, List.length_take, List.length_drop]
        exact Nat.le_trans (show _ ≤ 40 by show min a w.length + 1 + min (1 + z - (a + 1)) (w.length - (a + 1)) ≤ 40; omega) (by decide)
      · rw [wsD_cut, ea, ez, wsD_mid]
        unfold putW
        rw [List.map_map, List.map_append, List.map_append]
        rfl
      · rw [List.length_map, List.length_map, List.length_range]
        exact Nat.lt_of_lt_of_le (show i < 27 by omega) (by decide)
      · refine ⟨_, _, congrArg (fun l => [DV.dat .deck, .dat (.int (n : Nat)), .dat (.str LETS), .dat (.int way), .dat (.int (1 + (z : Nat))), .dat (.int (a : Nat)), .dat (.int (f : Nat)), _, .dat (.lst (wsD w)), .own l, _]) ?_⟩
        rw [List.range_succ, List.map_append, List.map_append]
        rfl
    · rintro δ ⟨u7, u10, rfl⟩
      rw [rngD_len, show ((n : Int)).toNat = n by omega]
      refine k _ (by rw [List.length_map, List.length_range]) ?_ fun x hx => ?_
      · refine nodup_map List.nodup_range fun i hi j hj q => ?_
        have hi := List.mem_range.mp hi
        have hj := List.mem_range.mp hj
        have q2 := congrArg (fun l : List Nat => l[a]?) (nmT_inj q)
        have q2 : (putW w a (1 + z) ((f + i) % 26))[a]? = (putW w a (1 + z) ((f + j) % 26))[a]? := q2
        rw [putW_at (by omega) (by omega), putW_at (by omega) (by omega)] at q2
        injection q2 with q2
        omega
      · obtain ⟨j, hj, rfl⟩ := List.mem_map.mp hx
        exact nmT_nm (putW_ok hw (Nat.mod_lt _ (by decide))) (by rw [putW_len (by omega) (by omega)]; omega) (by rw [putW_len (by omega) (by omega)]; omega)
end
end K
namespace K
open PySem L2 Rp
variable [TabT]
def nS (x y : Str) (g b : Int) : Str := x ++ " " ++ nT g ++ " " ++ y ++ " " ++ nT b
def spNStr (N : Addr) : Sp := fun vs H Q _ => ∃ (p : Addr) (x y : Str) (g b : Int), vs = [.ref p] ∧ NAt N H p x y g b ∧ NOkV x y g b ∧ Sz 1600 g ∧ ∀ H', Same H H' → Q (.str (nS x y g b)) H'
section
variable {P : Program} {w : World} {K : PySem.W.Frag} {mg : Str → Option Value} {base : Heap}
theorem scNStr : FnScope ["self"] ["self"] (defScope sNStr) := ⟨rfl, rfl, rfl, by decide +kernel, rfl, by decide +kernel, by decide +kernel⟩
theorem ok_nstr {f N fS : Addr} {fd fdS : FuncData} (F : Fun K "__str__" "Note.__str__" sNStr f fd) (T : NTxt K mg N) (cS : Cl K mg "show_whole" fS fdS ["number"]) (GS : FnOk P w K mg base CX0 1 fS fdS ["number"] spShow) :
    FnOk P w K mg base CX0 2 f fd ["self"] (spNStr N) := by
  refine F.ok scNStr (fun vs H Q E h => ?_) (fun cdv A outer s H vs Q E hr h => ?_)
  · obtain ⟨p, x, y, g, b, rfl, _⟩ := h
    rfl
  · obtain ⟨p, x, y, g, b, rfl, ⟨dx, hp⟩, ok, zg, k⟩ := h
    refine ⟨_, (pss_one (ps_ret (pe_joined (.cons (pe_fmt (pe_fld (pv 0) rfl)) (.cons pe_str (.cons (pe_fmt (pe_call GS (hr.mono (by decide)) (by rfl) cS.g cS.k cS.b .nil pass0 (pa_cons (pe_fld (pv 0) rfl) pa_nil))) (.cons pe_str (.cons (pe_fmt (pe_fld (pv 0) rfl)) (.cons pe_str (.cons (pe_fmt (pe_fld (pv 0) rfl)) .nil)))))))))), ?_⟩
    have lx := (nm_len ok.mx).2
    have ly := (nm_len ok.my).2
    have lg := nT_len zg
    have zb : Sz 1600 b := Sz.mono (a := 20) (by have := ok.b0; have := ok.b1; unfold Sz; omega) (by decide)
    have lb := nT_len zb
    have e1 : (" " : Str).length = 1 := by decide +kernel
    have e4 : (Str.empty : Str).length = 0 := by decide +kernel
    have big : ∀ n, n ≤ 10000 → n ≤ sizeLine := fun n h => Nat.le_trans h (by decide)
    refine ⟨_, rfl, p, N, dx, _, _, rfl, hp, T.cl, T.nN, nf_name _ _ _ _, .inl ⟨_, rfl, big _ (by omega), x, rfl, big _ (by simp only [append_len]; omega), " ", rfl, big _ (by simp only [append_len]; omega), ?_⟩⟩
    refine ⟨_, rfl, p, N, dx, _, _, rfl, hp, T.cl, T.nG, nf_grains _ _ _ _, g, rfl, by have := ok.g; omega, zg, fun H1 s1 => .inl ⟨_, rfl, big _ (by omega), nT g, rfl, big _ (by simp only [append_len]; omega), " ", rfl, big _ (by simp only [append_len]; omega), ?_⟩⟩
    refine ⟨_, rfl, p, N, dx, _, _, rfl, s1 _ _ hp, T.cl, T.nW, nf_ware _ _ _ _, .inl ⟨_, rfl, big _ (by omega), y, rfl, big _ (by simp only [append_len]; omega), " ", rfl, big _ (by simp only [append_len]; omega), ?_⟩⟩
    refine ⟨_, rfl, p, N, dx, _, _, rfl, s1 _ _ hp, T.cl, T.nB, nf_born _ _ _ _, .inr ⟨b, rfl, Nat.lt_trans (zb.log (by decide)) (by decide), nT b, rfl, big _ (by simp only [append_len]; omega), ?_⟩⟩
    have q := k H1 s1
    have ew : nS x y g b = Str.empty ++ x ++ " " ++ nT g ++ " " ++ y ++ " " ++ nT b := by rw [emp1]; rfl
    rw [ew] at q
    exact q
theorem scNEq : FnScope ["self", "other"] ["self", "other"] (defScope sNEq) := ⟨rfl, rfl, rfl, by decide +kernel, rfl, by decide +kernel, by decide +kernel⟩
/-- other is no Note, or one of these fields -/
def spNEq (K : PySem.W.Frag) (N : Addr) : Sp := fun vs H Q _ => ∃ (p : Addr) (x y : Str) (g b : Int) (v : V), vs = [.ref p, v] ∧ NAt N H p x y g b ∧
  ((∃ tv, TyX K H v tv ∧ PySem.W.kitOne K tv (.ref N) = some false ∧ Q (.bl false) H) ∨
   (∃ (q : Addr) (x2 y2 : Str) (g2 b2 : Int), v = .ref q ∧ NAt N H q x2 y2 g2 b2 ∧ Q (.bl (decide (x = x2 ∧ y = y2 ∧ g = g2 ∧ b = b2))) H))
theorem ok_neq {f N : Addr} {fd : FuncData} (F : Fun K "__eq__" "Note.__eq__" sNEq f fd) (T : NTxt K mg N) (B : Blt mg) (I : WIns K N) : FnOk P w K mg base CX0 1 f fd ["self", "other"] (spNEq K N) := by
  refine F.ok scNEq (fun vs H Q E h => ?_) (fun cdv A outer s H vs Q E hr h => ?_)
  · obtain ⟨p, x, y, g, b, v, rfl, _⟩ := h
    rfl
  · obtain ⟨p, x, y, g, b, v, rfl, ⟨dx, hp⟩, h⟩ := h
    refine ⟨_, (pss_one (ps_ret (pe_and (pe_callB call_isi (by rfl) B.isi (by decide +kernel) (pa_cons (pv 1) (pa_cons (pe_glob (v := .ref N) rfl T.mgN rfl) pa_nil))) (pe_and (pe_cmpR op_eq (pe_fld (pv 0) rfl) (pe_fld (pv 1) rfl) (nomark _)) (pe_and (pe_cmpR op_eq (pe_fld (pv 0) rfl) (pe_fld (pv 1) rfl) (nomark _)) (pe_and (pe_cmpR op_eq (pe_fld (pv 0) rfl) (pe_fld (pv 1) rfl) (nomark _)) (pe_one (pe_cmpR op_eq (pe_fld (pv 0) rfl) (pe_fld (pv 1) rfl) (nomark _))))))))), ?_⟩
    rcases h with ⟨tv, ty, kf, k⟩ | ⟨q, x2, y2, g2, b2, rfl, ⟨dy, hq⟩, k⟩
    · refine ⟨_, rfl, _, .ref N, _, _, false, rfl, .own _, ty, kf, false, rfl, ?_⟩
      exact iteF k
    · refine ⟨_, rfl, _, .ref N, _, _, true, rfl, .own _, .base (.ins hq T.cl I.ha I.hn I.htk I.hm), kit_self, true, rfl, iteT ?_⟩
      have no : ¬ (x = x2 ∧ y = y2 ∧ g = g2 ∧ b = b2) → Q (.bl false) H := fun n => by
        rw [decide_eq_false n] at k
        exact k
      refine ⟨_, rfl, p, N, dx, _, _, rfl, hp, T.cl, T.nN, nf_name _ _ _ _, _, rfl, q, N, dy, _, _, rfl, hq, T.cl, T.nN, nf_name _ _ _ _, rfl, _, rfl, ?_⟩
      by_cases h1 : x = x2
      rotate_left
      · rw [decide_eq_false (show ¬ V.str x = V.str x2 from fun z => h1 (by injection z))]
        exact iteF (no fun z => h1 z.1)
      rw [decide_eq_true (show V.str x = V.str x2 by rw [h1])]
      refine iteT ⟨_, rfl, p, N, dx, _, _, rfl, hp, T.cl, T.nW, nf_ware _ _ _ _, _, rfl, q, N, dy, _, _, rfl, hq, T.cl, T.nW, nf_ware _ _ _ _, rfl, _, rfl, ?_⟩
      by_cases h2 : y = y2
      rotate_left
      · rw [decide_eq_false (show ¬ V.str y = V.str y2 from fun z => h2 (by injection z))]
        exact iteF (no fun z => h2 z.2.1)
      rw [decide_eq_true (show V.str y = V.str y2 by rw [h2])]
      refine iteT ⟨_, rfl, p, N, dx, _, _, rfl, hp, T.cl, T.nG, nf_grains _ _ _ _, _, rfl, q, N, dy, _, _, rfl, hq, T.cl, T.nG, nf_grains _ _ _ _, rfl, _, rfl, ?_⟩
      by_cases h3 : g = g2
      rotate_left
      · rw [decide_eq_false (show ¬ V.int g = V.int g2 from fun z => h3 (by injection z))]
        exact iteF (no fun z => h3 z.2.2.1)
      rw [decide_eq_true (show V.int g = V.int g2 by rw [h3])]
      refine iteT ⟨_, rfl, p, N, dx, _, _, rfl, hp, T.cl, T.nB, nf_born _ _ _ _, _, rfl, q, N, dy, _, _, rfl, hq, T.cl, T.nB, nf_born _ _ _ _, rfl, ?_⟩
      have e : decide (V.int b = V.int b2) = decide (x = x2 ∧ y = y2 ∧ g = g2 ∧ b = b2) := decide_eq_decide.mpr ⟨fun z => ⟨h1, h2, h3, by injection z⟩, fun z => by rw [z.2.2.2]⟩
      rw [← e] at k
      exact k
end
/-! ### == of Notes, Weights and Casks with anything -/
/-- which answer an own == gives here: a Note asked of anything, a Weight or a Cask asked of a Note -/
def owA (K : PySem.W.Frag) (N : Addr) (S : Addr → Prop) : OwD := fun C fs e b =>
  (C = N ∧ ∃ n : N4, D.ins C fs = nD N n ∧ ((∃ m : N4, e = nD N m ∧ b = decide (n = m)) ∨ ∃ t, e.tyOk K t ∧ PySem.W.kitOne K t (.ref N) = some false ∧ b = false)) ∨
  (C ≠ N ∧ S C ∧ (∃ m : N4, e = nD N m) ∧ PySem.W.kitOne K (.ref N) (.ref C) = some false ∧ b = false)
theorem owA_self {K : PySem.W.Frag} {N : Addr} {S : Addr → Prop} (hk : PySem.W.kitOne K (.ref N) (.ref N) = some true) : ∀ C fs b, owA K N S C fs (.ins C fs) b → b = true := fun C fs b h => by
  rcases h with ⟨rfl, n, e, ⟨m, e2, rfl⟩ | ⟨t, ty, kf, rfl⟩⟩ | ⟨ne, _, ⟨m, e⟩, _⟩
  · rw [e] at e2
    injection e2 with _ e2
    have : n = m := by
      obtain ⟨n1, n2, n3, n4⟩ := n
      obtain ⟨m1, m2, m3, m4⟩ := m
      simp only [List.cons.injEq, Prod.mk.injEq, D.str.injEq, D.int.injEq, true_and, and_true] at e2
      obtain ⟨rfl, rfl, rfl, rfl⟩ := e2
      rfl
    exact decide_eq_true this
  · have ty : t = .ref C ∧ _ := ty
    rw [ty.1, hk] at kf
    cases kf
  · injection e with e
    exact absurd e ne
theorem nD_addr {K : PySem.W.Frag} {H : Hp} {N : Addr} {n : N4} {v : V} (h : Dn K H M0_ (nD N n) v) : ∃ a, v = .ref a ∧ NAt N H a n.1 n.2.1 n.2.2.1 n.2.2.2 := by
  obtain ⟨a, dx, ws, rfl, hp, u1, _, rfl, n1, u2, _, rfl, n2, u3, _, rfl, n3, u4, _, rfl, n4, rfl⟩ := h
  have n1 : u1 = .str n.1 := n1
  have n2 : u2 = .str n.2.1 := n2
  have n3 : u3 = .int n.2.2.1 := n3
  have n4 : u4 = .int n.2.2.2 := n4
  subst n1 n2 n3 n4
  exact ⟨a, rfl, dx, by rw [nf_eq]; exact hp⟩
section
variable {P : Program} {w : World} {K : PySem.W.Frag} {mg : Str → Option Value} {base : Heap}
theorem FnOk.eqA {S : Addr → Prop} {f N : Addr} {fd : FuncData} (F : FnOk P w K mg base CX0 1 f fd ["self", "other"] (spNEq K N)) : FnOk P w K mg base CX0 1 f fd ["self", "other"] (spO (RD2 K (owA K N S) N)) := by
  have to : ∀ (vs : List V) (H : Hp) (Q : VK) (E : XK), spO (RD2 K (owA K N S) N) vs H Q E → spNEq K N vs H Q E := by
    rintro vs H Q E ⟨a, y, b, rfl, ⟨fs, e, _, _, n1, n2, q⟩, k⟩
    have k := k H L2.Ext.rfl'
    rcases q with ⟨_, n, en, q⟩ | ⟨ne, _⟩
    · rw [en] at n1
      obtain ⟨a', ea, hn⟩ := nD_addr n1
      injection ea with ea
      subst ea
      refine ⟨a, n.1, n.2.1, n.2.2.1, n.2.2.2, y, rfl, hn, ?_⟩
      rcases q with ⟨m, rfl, rfl⟩ | ⟨t, ty, kf, rfl⟩
      · obtain ⟨c, rfl, hm⟩ := nD_addr n2
        refine .inr ⟨c, _, _, _, _, rfl, hm, ?_⟩
        have e : decide (n.1 = m.1 ∧ n.2.1 = m.2.1 ∧ n.2.2.1 = m.2.2.1 ∧ n.2.2.2 = m.2.2.2) = decide (n = m) := decide_eq_decide.mpr ⟨fun z => by
          obtain ⟨n1, n2, n3, n4⟩ := n
          obtain ⟨m1, m2, m3, m4⟩ := m
          obtain ⟨rfl, rfl, rfl, rfl⟩ := z
          rfl, fun z => by rw [z]; exact ⟨rfl, rfl, rfl, rfl⟩⟩
        rw [e]
        exact k
      · exact .inl ⟨t, D.tyX n2 ty, kf, k⟩
    · exact absurd rfl ne
  exact ⟨fun vs H Q E h => F.len vs H Q E (to _ _ _ _ h), fun A outer s H args us vs Q E hr e b v h => F.run A outer s H args us vs Q E hr e b v (to _ _ _ _ h)⟩
end
end K
namespace K
open PySem L2 Rp
variable [TabT]
/-! ### Casks of no parts -/
def ltS (x y : Str) : Bool := decide (x.cps.toList < y.cps.toList)
def risB : List Str → Bool
  | x :: y :: r => ltS x y && risB (y :: r)
  | _ => true
def adj (xs : List Str) : List Bool := (List.zip xs (xs.drop 1)).map fun p => ltS p.1 p.2
theorem adj_all : ∀ xs : List Str, (adj xs).all id = risB xs
  | [] => rfl
  | [_] => rfl
  | x :: y :: r => by
    have ih := adj_all (y :: r)
    show (ltS x y && (adj (y :: r)).all id) = (ltS x y && risB (y :: r))
    rw [ih]
def πRising : List D → (D → Prop) → Prop := fun ds Q => ∃ xs : List Str, ds = [.lst (xs.map D.str)] ∧ xs.length ≤ 100 ∧ Q (.bl (risB xs))
structure CTxt (K : PySem.W.Frag) (mg : Str → Option Value) (C : Addr) : Prop where
  cl : Cls K C
  nM : NoAttr K C "mark"
  nS : NoAttr K C "since"
  nP : NoAttr K C "parts"
  mgK : mg "Cask" = some (.ref C)
def cf (m : Str) (d : Int) (v : V) : List (Str × V) := putF "parts" v (putF "since" (.int d) (putF "mark" (.str m) []))
theorem cf_eq (m : Str) (d : Int) (v : V) : cf m d v = [(("mark" : Str), V.str m), (("since" : Str), V.int d), (("parts" : Str), v)] := by
  have e1 : ¬ (("mark" : Str) = "since") := by decide +kernel
  have e2 : ¬ (("mark" : Str) = "parts") := by decide +kernel
  have e3 : ¬ (("since" : Str) = "parts") := by decide +kernel
  unfold cf
  have h1 : putF "since" (.int d) (putF "mark" (.str m) []) = [(("mark" : Str), V.str m), (("since" : Str), V.int d)] := by
    show (if ("mark" : Str) = "since" then _ else _) = _
    rw [if_neg e1]
    rfl
  rw [h1]
  show (if ("mark" : Str) = "parts" then _ else _) = _
  rw [if_neg e2]
  show _ :: (if ("since" : Str) = "parts" then _ else _) = _
  rw [if_neg e3]
  rfl
/-- what a cask is of -/
structure CkOk (m : Str) (d : Int) : Prop where
  mv : mkV (.str m) = true
  asc : Asc m
  len : m.length ≤ 10
  d0 : 0 ≤ d
  d1 : d ≤ 1200
def πParts0 : List D → (D → Prop) → Prop := fun ds Q => ds = [.tup []] ∧ Q (.bl true)
/-- a cask's data -/
abbrev ckD (C : Addr) (m : Str) (d : Int) : D := .ins C [(("mark" : Str), .str m), (("since" : Str), .int d), (("parts" : Str), .tup [])]
def spCI0 (C : Addr) : Sp := fun vs H Q _ => ∃ (p dx : Addr) (m : Str) (d : Int), vs = [.ref p, .str m, .int d, .non] ∧ H p = some (.ins C dx []) ∧ CkOk m d ∧ LamX.Tabs TabT.T H ∧ ∀ q H2, SmT H H2 → H2 q = some (.tup []) → Q .non (upd H2 p (.ins C dx (cf m d (.ref q))))
section
variable {P : Program} {w : World} {K : PySem.W.Frag} {mg : Str → Option Value} {base : Heap}
theorem scRising : FnScope ["things", "one", "other"] ["things"] (defScope sRising) := ⟨rfl, rfl, rfl, by decide +kernel, rfl, by decide +kernel, by decide +kernel⟩
theorem od_rising {f : Addr} {fd : FuncData} (F : Fun K "are_rising" "are_rising" sRising f fd) (hal : mg "all" = none) (hzi : mg "zip" = none) : FnOk P w K mg base CX0 1 f fd ["things"] (spD K 0 πRising) := by
  refine okD F scRising (fun ds Q h => ?_) (fun cdv A outer s H E hr => ?_)
  · obtain ⟨p, rfl, _⟩ := h
    rfl
  · refine ⟨_, _, _, (pss_one (ps_ret (pe_callB (cr_all rfl) (by rfl) hal (by decide +kernel) (pa_cons (pe_lc (own := [("one", 1), ("other", 2)]) (g := gTup K 2 (gCons (gName 1) (gCons (gName 2) gNil))) (tt := tYes) (by rfl) scRising.nd (pi_zip (by rfl) hzi (pa_cons (pv 0) (pa_cons (pe_slice sl_list (pv 0) (po_some pe_int) po_none) pa_nil))) (blkOk_by (own := [("one", 1), ("other", 2)]) (N := ["things", "one", "other"]) (sc := defScope sRising) (by decide +kernel)) (fun _ _ _ _ _ => (pg_tup rfl (pgs_cons (pg_name (i := 1) scRising.nd rfl (Or.inl rfl)) (pgs_cons (pg_name (i := 2) scRising.nd rfl (Or.inl rfl)) pgs_nil)))) (fun _ _ _ _ _ => pts_nil) (fun _ _ _ _ _ => (pe_cmpR op_lt_str (pv 1) (pv 2) (nomark _)))) pa_nil)))), (ss_ret (se_cb sc_all (sa_cons (SF.se (sf_lcM (SI.toB (si_zip (sa_cons (se_var 0) (sa_cons (SF.se (sf_slL (se_var 0) (so_some se_int) so_none)) sa_nil)))) (sg_tup (sgs_cons (sg_name 1) (sgs_cons (sg_name 2) sgs_nil))) (by decide) st_yes (se_op sr_lt_str (se_var 1) (se_var 2)))) sa_nil))), (by decide), ?_⟩
    rintro ds Q ⟨xs, rfl, lx, k⟩
    refine ⟨1, rfl, _, rfl, _, _, rfl, ?_⟩
    have ez : zipD (xs.map D.str) (cutD (xs.map D.str) (some 1) none) = (List.zip xs (xs.drop 1)).map fun p => .tup [.str p.1, .str p.2] := by
      rw [show (some (1 : Int)) = some ((1 : Nat) : Int) from rfl, cutD_from, ← List.map_drop]
      unfold zipD
      rw [List.zip_map, List.map_map]
      rfl
    rw [ez]
    refine ⟨?_, fun d => match d with
      | .tup [.str x, .str y] => .bl (ltS x y)
      | _ => .non, fun d hd P hP => ?_, _, adj xs, rfl, ?_, ?_⟩
    · rw [List.length_map, List.length_zip]
      exact Nat.lt_of_le_of_lt (show _ ≤ 100 by omega) (by decide)
    · obtain ⟨p, _, rfl⟩ := List.mem_map.mp hd
      exact ⟨rfl, rfl, fun _ => hP, fun z => nomatch z⟩
    · show D.lst _ = D.lst _
      unfold adj
      rw [List.map_map, List.map_map]
      rfl
    · rw [adj_all]
      exact k
theorem scParts : FnScope ["thing", "ware", "_", "part"] ["thing"] (defScope sParts) := ⟨rfl, rfl, rfl, by decide +kernel, rfl, by decide +kernel, by decide +kernel⟩
def spNo : Sp := fun _ _ _ _ => False
theorem ok_no {f : Addr} {fd : FuncData} {k : Nat} {ps : List Str} : FnOk P w K mg base CX0 k f fd ps (spD K 0 fun _ _ => False) := toD (sp := spNo) ⟨fun vs H Q E h => h.elim, fun A outer s H args us vs Q E hr e b v h => h.elim⟩ fun H M ds vs Q Qd E _ wd n h q => h.elim
theorem od_parts0 {f fPa fRi : Addr} {fd dPa dRi : FuncData} {zM : Int} {tM : Tok} (F : Fun K "is_parts" "is_parts" sParts f fd) (B : Blt mg) (hln : mg "len" = none) (htu : mg "tuple" = none) (hal : mg "all" = none) (hMP : mg "MOST_PARTS" = some (.int zM tM)) (eM : zM = 4)
    (cPa : Cl K mg "is_part" fPa dPa ["thing"]) (GPa : FnOk P w K mg base CX0 3 fPa dPa ["thing"] (spD K 0 fun _ _ => False)) (cRi : Cl K mg "are_rising" fRi dRi ["things"]) (GRi : FnOk P w K mg base CX0 1 fRi dRi ["things"] (spD K 0 πRising)) : FnOk P w K mg base CX0 4 f fd ["thing"] (spD K 0 πParts0) := by
  subst eM
  refine okD F scParts (fun ds Q h => ?_) (fun cdv A outer s H E hr => ?_)
  · obtain ⟨rfl, _⟩ := h
    rfl
  · refine ⟨_, _, _, (pss_cons (ps_if (PW.pt (pw_or (pt_not (pt_val (pe_callB call_isi (by rfl) B.isi (by decide +kernel) (pa_cons (pv 0) (pa_cons (pe_bltn (v := .ty "tuple") (by rfl) htu (by decide +kernel) rfl) pa_nil))))) (pw_or1 (pt_cmpR op_gt (pe_callB call_len_seq (by rfl) hln PySem.boot_len (pa_cons (pv 0) pa_nil)) (pe_glob (v := .int 4) rfl hMP ⟨_, rfl⟩) (nomark _))))) (pss_one (ps_ret pe_bl)) pss_nil)
    (pss_cons (ps_if (pt_not (pt_val (pe_callB (cr_all rfl) (by rfl) hal (by decide +kernel) (pa_cons (pe_lc (own := [("part", 3)]) (g := gName 3) (tt := tYes) (by rfl) scParts.nd (pi_tup (pv 0)) (blkOk_by (own := [("part", 3)]) (N := ["thing", "ware", "_", "part"]) (sc := defScope sParts) (by decide +kernel)) (fun _ _ _ _ _ => (pg_name (i := 3) scParts.nd rfl (Or.inl rfl))) (fun _ _ _ _ _ => pts_nil) (fun _ _ _ _ _ => (pe_call GPa (hr.mono (by decide)) (by rfl) cPa.g cPa.k cPa.b .nil pass0 (pa_cons (pv 3) pa_nil)))) pa_nil)))) (pss_one (ps_ret pe_bl)) pss_nil)
    (pss_one (ps_ret (pe_call GRi (hr.mono (by decide)) (by rfl) cRi.g cRi.k cRi.b .nil pass0 (pa_cons (pe_lc (own := [("ware", 1), ("_", 2)]) (g := gTup K 2 (gCons (gName 1) (gCons (gName 2) gNil))) (tt := tYes) (by rfl) scParts.nd (pi_tup (pv 0)) (blkOk_by (own := [("ware", 1), ("_", 2)]) (N := ["thing", "ware", "_", "part"]) (sc := defScope sParts) (by decide +kernel)) (fun _ _ _ _ _ => (pg_tup rfl (pgs_cons (pg_name (i := 1) scParts.nd rfl (Or.inl rfl)) (pgs_cons (pg_name (i := 2) scParts.nd rfl (Or.inl rfl)) pgs_nil)))) (fun _ _ _ _ _ => pts_nil) (fun _ _ _ _ _ => (pv 1))) pa_nil)))))), (ss_seq (ss_if (st_or (st_not (st_b (se_cb sc_isi (sa_cons (se_var 0) (sa_cons se_raw sa_nil))))) (st_test (se_op sr_gt (se_cb sc_len (sa_cons (se_var 0) sa_nil)) se_int))) (ss_ret se_bl) ss_nil)
    (ss_seq (ss_if (st_not (st_b (se_cb sc_all (sa_cons (SF.se (sf_lcM (SI.toB (si_tup (se_var 0))) (sg_name 3) (by decide) st_yes (se_callN (sa_cons (se_var 3) sa_nil)))) sa_nil)))) (ss_ret se_bl) ss_nil)
    (ss_ret (se_callN (sa_cons (SF.se (sf_lcM (SI.toB (si_tup (se_var 0))) (sg_tup (sgs_cons (sg_name 1) (sgs_cons (sg_name 2) sgs_nil))) (by decide) st_yes (se_var 1))) sa_nil))))), (by decide), ?_⟩
    rintro ds Q ⟨rfl, k⟩
    have ls : ([] : List D).length < sizeLine := by decide
    refine ⟨_, _, _, _, true, rfl, .ty _, rfl, kit_ty (by decide +kernel), bF rfl ?_⟩
    refine ⟨_, _, rfl, rfl, bF (by decide) ?_⟩
    refine ⟨ls, fun _ => .bl true, fun d hd P hP => (nomatch hd), _, [], rfl, rfl, ?_⟩
    refine bF rfl ?_
    exact ⟨ls, fun _ => .bl true, fun d hd P hP => (nomatch hd), [], rfl, by decide, k⟩
theorem scCInit : FnScope ["self", "mark", "since", "parts", "held"] ["self", "mark", "since", "parts"] (defScope sCInit) := ⟨rfl, rfl, rfl, by decide +kernel, rfl, by decide +kernel, by decide +kernel⟩
abbrev FunC (K : PySem.W.Frag) (f : Addr) (fd : FuncData) : Prop := FunD K "__init__" "Cask.__init__" (defArgs sCInit) (defBody sCInit) (defScope sCInit) [.non] [] f fd
theorem ok_cinit0 {f C fMk fDy fPs : Addr} {fd dMk dDy dPs : FuncData} (F : FunC K f fd) (T : CTxt K mg C) (cMk : Cl K mg "is_mark" fMk dMk ["thing"]) (GMk : FnOk P w K mg base CX0 3 fMk dMk ["thing"] (spQ K mkV))
    (cDy : Cl K mg "is_day" fDy dDy ["thing"]) (GDy : FnOk P w K mg base CX0 2 fDy dDy ["thing"] (spQ K dyV)) (cPs : Cl K mg "is_parts" fPs dPs ["thing"]) (GPs : FnOk P w K mg base CX0 4 fPs dPs ["thing"] (spD K 0 πParts0)) : FnOk P w K mg base CX0 5 f fd ["self", "mark", "since", "parts"] (spCI0 C) := by
  refine FunD_ok0 F scCInit (fun vs H Q E h => ?_) (fun cdv A outer s H vs Q E hr h => ?_)
  · obtain ⟨p, dx, m, d, rfl, _⟩ := h
    rfl
  · obtain ⟨p, dx, m, d, rfl, hp, ok, tb, k⟩ := h
    refine ⟨_, (pss_cons (ps_set (i := 4) scCInit.nd rfl (Or.inl rfl) (pe_ifExp (pt_cmp (pc_isN (pv 3))) (pe_tup pa_nil) (pv 3)))
    (pss_cons (ps_if (pt_not (pt_val (pe_call GMk (hr.mono (by decide)) (by rfl) cMk.g cMk.k cMk.b .nil pass0 (pa_cons (pv 1) pa_nil)))) (pss_one ps_never) pss_nil)
    (pss_cons (ps_if (pt_not (pt_val (pe_call GDy (hr.mono (by decide)) (by rfl) cDy.g cDy.k cDy.b .nil pass0 (pa_cons (pv 2) pa_nil)))) (pss_one ps_never) pss_nil)
    (pss_cons (ps_if (pt_not (pt_val (pe_call GPs (hr.mono (by decide)) (by rfl) cPs.g cPs.k cPs.b .nil pass0 (pa_cons (pv 4) pa_nil)))) (pss_one ps_never) pss_nil)
    (pss_cons (ps_fld (pv 0) (pv 1) rfl)
    (pss_cons (ps_fld (pv 0) (pv 2) rfl)
    (pss_one (ps_fld (pv 0) (pv 4) rfl)))))))), ?_⟩
    refine ⟨_, rfl, true, congrArg V.bl (decide_eq_true rfl), iteT ⟨Nat.zero_le _, fun q hq => ?_⟩⟩
    have s0 : Same H (upd H q (.tup [])) := fun b o hb => by rw [upd_ne (ne_of_none hb hq)]; exact hb
    refine ⟨_, rfl, _, rfl, wh_str, ws_str, tok_str ok.asc (by have := ok.len; omega), fun H1 s1 => ⟨_, rfl, ?_⟩⟩
    rw [ok.mv]
    have hb : dyV (.int d) = true := by
      show (decide (0 ≤ d) && decide (d ≤ 1200)) = true
      rw [decide_eq_true ok.d0, decide_eq_true ok.d1]
      rfl
    refine iteF ⟨_, rfl, _, rfl, wh_int, ws_int, tok_int, fun H2 s2 => ⟨_, rfl, ?_⟩⟩
    rw [hb]
    have s12 := s1.trans s2
    have hq2 : H2 q = some (.tup []) := s12 _ _ upd_same
    refine iteF ⟨_, rfl, M0_, [.tup []], fun d => d = .bl true, by decide, wd0 (tb.ext (s0.trans s12)), ⟨_, [], rfl, ⟨q, [], rfl, hq2, rfl⟩, rfl⟩, ⟨rfl, rfl⟩, fun r u H3 M3 w3 x3 n3 er => ?_⟩
    subst er
    have n3 : u = .bl true := n3
    subst n3
    refine ⟨_, rfl, iteF ?_⟩
    have sA := (SmT.of (s0.trans s12)).trans (smt_of0 x3 w3)
    have sB := (SmT.of (Same.refl H2)).trans (smt_of0 x3 w3)
    have hp4 := sA.k0 _ _ hp (fun _ z => nomatch z)
    have hq4 := sB.k0 _ _ hq2 (fun _ z => nomatch z)
    refine ⟨_, rfl, _, rfl, p, C, dx, _, rfl, hp4, T.cl, T.nM, (by show 0 < 1000; decide), ?_⟩
    refine ⟨_, rfl, _, rfl, p, C, dx, _, rfl, upd_same, T.cl, T.nS, (by show 1 < 1000; decide), ?_⟩
    refine ⟨_, rfl, _, rfl, p, C, dx, _, rfl, upd_same, T.cl, T.nP, (by show 2 < 1000; decide), ?_⟩
    show Q .non (upd (upd (upd H3 p _) p _) p _)
    rw [upd_upd, upd_upd]
    exact k q H3 sA hq4
end
/-- Cask(m, d) -/
theorem se_mkC0 {K : PySem.W.Frag} {C : Addr} {E : XK} {t : TA} {r : TDA} {c : Nat} (h : SA K c t r) : SE K c (tMake C (spCI0 C) [.non] E t) (fun δ Q => r δ fun xs => ∃ (m : Str) (d : Int), xs = [.d (.str m), .d (.int d)] ∧ CkOk m d ∧ Q (.d (ckD C m d))) := ⟨fun H0 M0 H M σ δ Q Qd s q k => h.run H0 M0 H M σ δ _ _ s q fun xs vs H1 M1 w1 e1 n1 z => by
  obtain ⟨m, d, rfl, ok, qd⟩ := z
  obtain ⟨v1, v2, rfl, n1, n2⟩ := dx2 n1
  have n1 := DxStr n1
  have n2 := DxInt n2
  subst n1 n2
  intro x dx nx ndx ne
  have st : Same H1 (upd (upd H1 dx (.own x)) x (.ins C dx [])) := fun b o hb => by rw [upd_ne (ne_of_none hb nx), upd_ne (ne_of_none hb ndx)]; exact hb
  refine ⟨x, dx, m, d, rfl, upd_same, ok, w1.tb.ext st, fun q H2 s2 hq => ⟨rfl, ?_⟩⟩
  have at_ : H2 x = some (.ins C dx []) := s2.k0 _ _ upd_same (fun _ z => nomatch z)
  have s3 : SmT H1 (upd H2 x (.ins C dx (cf m d (.ref q)))) := ⟨fun b o hb n => by rw [upd_ne (ne_of_none hb nx)]; exact s2.k0 _ _ (st b o hb) n, fun b ps hb => by rw [upd_ne (ne_of_none hb nx)]; exact s2.kt _ _ (st b _ hb), fun t => tabs_wr at_ (fun _ z => nomatch z) (fun _ z => nomatch z) (s2.tb (t.ext st))⟩
  obtain ⟨w3, x3⟩ := smt_xe w1 s3
  have qx : q ≠ x := fun z => by
    rw [z, at_] at hq
    cases hq
  exact k (.d (ckD C m d)) _ _ M1 w3 (e1.trans x3) ⟨x, dx, _, rfl, (by rw [upd_same, cf_eq]), _, _, rfl, rfl, _, _, rfl, rfl, _, _, rfl, ⟨q, [], rfl, (by rw [upd_ne qx]; exact hq), rfl⟩, rfl⟩ qd⟩
end K
namespace K
open PySem L2 Rp
variable [TabT]
/-! ### Weights and Casks asked of a Note; fields; what is told of two -/
def πFieldsA (N : Addr) : List D → (D → Prop) → Prop := fun ds Q => ∃ n : N4, ds = [nD N n] ∧ Q (fD n)
def bls (b : Bool) : D := .lst [.bl b, .bl b, .bl (!b), .bl (!b), .bl b, .bl b]
def πTold (K : PySem.W.Frag) (N : Addr) (S : Addr → Prop) : List D → (D → Prop) → Prop := fun ds Q => ∃ (n : N4) (d : D) (b : Bool), ds = [nD N n, d, .bl b] ∧ d.pd = true ∧ AskO K (owA K N S) (nD N n) d b ∧ AskO K (owA K N S) d (nD N n) b ∧ Q (.bl true)
section
variable {P : Program} {w : World} {K : PySem.W.Frag} {mg : Str → Option Value} {base : Heap}
theorem scEq : FnScope ["self", "other"] ["self", "other"] (defScope sEq) := ⟨rfl, rfl, rfl, by decide +kernel, rfl, by decide +kernel, by decide +kernel⟩
theorem ok_weqA {S : Addr → Prop} {f N W fW : Addr} {fd : FuncData} (F : Fun K "__eq__" "Weight.__eq__" sEq f fd) (T : WTxt K mg W fW) (B : Blt mg) (ne : W ≠ N) (cN : Cls K N) (I : WIns K N) : FnOk P w K mg base CX0 1 f fd ["self", "other"] (spO (RD2 K (owA K N S) W)) := by
  refine F.ok scEq (fun vs H Q E h => ?_) (fun cdv A outer s H vs Q E hr h => ?_)
  · obtain ⟨a, y, r, rfl, _⟩ := h
    rfl
  · obtain ⟨p, y, r, rfl, ⟨fs, e, _, _, n1, n2, q⟩, k⟩ := h
    rcases q with ⟨e1, _⟩ | ⟨_, _, ⟨m, rfl⟩, kf, rfl⟩
    · exact absurd e1 ne
    obtain ⟨c, rfl, dy, hm⟩ := nD_addr n2
    have k := k H L2.Ext.rfl'
    refine ⟨_, (pss_one (ps_ret (pe_and (pe_callB call_isi (by rfl) B.isi (by decide +kernel) (pa_cons (pv 1) (pa_cons (pe_glob (v := .ref W) rfl T.mgC rfl) pa_nil))) (pe_and (pe_cmpR op_eq (pe_fld (pv 0) rfl) (pe_fld (pv 1) rfl) (nomark _)) (pe_one (pe_cmpR op_eq (pe_fld (pv 0) rfl) (pe_fld (pv 1) rfl) (nomark _))))))), ?_⟩
    refine ⟨_, rfl, _, .ref W, _, _, false, rfl, .own _, .base (.ins hm cN I.ha I.hn I.htk I.hm), kf, false, rfl, ?_⟩
    exact iteF k
theorem scCEq : FnScope ["self", "other"] ["self", "other"] (defScope sCEq) := ⟨rfl, rfl, rfl, by decide +kernel, rfl, by decide +kernel, by decide +kernel⟩
theorem ok_ceqA {S : Addr → Prop} {f N W : Addr} {fd : FuncData} (F : Fun K "__eq__" "Cask.__eq__" sCEq f fd) (T : CTxt K mg W) (B : Blt mg) (ne : W ≠ N) (cN : Cls K N) (I : WIns K N) : FnOk P w K mg base CX0 1 f fd ["self", "other"] (spO (RD2 K (owA K N S) W)) := by
  refine F.ok scCEq (fun vs H Q E h => ?_) (fun cdv A outer s H vs Q E hr h => ?_)
  · obtain ⟨a, y, r, rfl, _⟩ := h
    rfl
  · obtain ⟨p, y, r, rfl, ⟨fs, e, _, _, n1, n2, q⟩, k⟩ := h
    rcases q with ⟨e1, _⟩ | ⟨_, _, ⟨m, rfl⟩, kf, rfl⟩
    · exact absurd e1 ne
    obtain ⟨c, rfl, dy, hm⟩ := nD_addr n2
    have k := k H L2.Ext.rfl'
    refine ⟨_, (pss_one (ps_ret (pe_and (pe_callB call_isi (by rfl) B.isi (by decide +kernel) (pa_cons (pv 1) (pa_cons (pe_glob (v := .ref W) rfl T.mgK rfl) pa_nil))) (pe_and (pe_cmpR op_eq (pe_fld (pv 0) rfl) (pe_fld (pv 1) rfl) (nomark _)) (pe_and (pe_cmpR op_eq (pe_fld (pv 0) rfl) (pe_fld (pv 1) rfl) (nomark _)) (pe_one (pe_cmpR op_eq (pe_fld (pv 0) rfl) (pe_fld (pv 1) rfl) (nomark _)))))))), ?_⟩
    refine ⟨_, rfl, _, .ref W, _, _, false, rfl, .own _, .base (.ins hm cN I.ha I.hn I.htk I.hm), kf, false, rfl, ?_⟩
    exact iteF k
theorem scLFields : FnScope ["_law_note"] ["_law_note"] (defScope sLFields) := ⟨rfl, rfl, rfl, by decide +kernel, rfl, by decide +kernel, by decide +kernel⟩
theorem od_lfieldsA {f N : Addr} {fd : FuncData} (F : Fun K "_law_fields" "_law_fields" sLFields f fd) (TN : NTxt K mg N) : FnOk P w K mg base CX0 1 f fd ["_law_note"] (spD K 0 (πFieldsA N)) := by
  refine okD F scLFields (fun ds Q h => ?_) (fun cdv A outer s H E hr => ?_)
  · obtain ⟨n, rfl, _⟩ := h
    rfl
  · refine ⟨_, _, _, (pss_one (ps_ret (pe_tup (pa_cons (pe_fld (pv 0) rfl) (pa_cons (pe_fld (pv 0) rfl) (pa_cons (pe_fld (pv 0) rfl) (pa_cons (pe_fld (pv 0) rfl) pa_nil))))))), (ss_ret (se_tup (sa_cons (se_fld (se_var 0)) (sa_cons (se_fld (se_var 0)) (sa_cons (se_fld (se_var 0)) (sa_cons (se_fld (se_var 0)) sa_nil)))))), (by decide), ?_⟩
    rintro ds Q ⟨n, rfl, k⟩
    exact ⟨TN.cl, TN.nN, _, nD_name, TN.cl, TN.nW, _, nD_ware, TN.cl, TN.nG, _, nD_grains, TN.cl, TN.nB, _, nD_born, sl4, k⟩
theorem scLTold : FnScope ["_law_one", "_law_other", "_law_due", "_law_asked"] ["_law_one", "_law_other", "_law_due"] (defScope sLTold) := ⟨rfl, rfl, rfl, by decide +kernel, rfl, by decide +kernel, by decide +kernel⟩
theorem od_told {S : Addr → Prop} {f N : Addr} {fd : FuncData} (F : Fun K "_law_told" "_law_told" sLTold f fd) (hrp : mg "repr" = none) (OO : OwF P w K mg base 1 (owA K N S))
    (ow : ∀ N' qual sc f cdv A outer s H E, OwnSays (cxOf CX0 P w K mg base N' qual sc f cdv A outer s H E).nox K (goodN N) ownN) : FnG P w K mg base CX0 6 f fd ["_law_one", "_law_other", "_law_due"] (spD K 10 (πTold K N S)) := by
  refine okGD F scLTold (fun ds Q h => ?_) (fun cdv A outer s H E gd hr => ?_)
  · obtain ⟨_, _, _, rfl, _⟩ := h
    rfl
  · refine ⟨_, _, _, (pss_cons (ps_set (i := 3) scLTold.nd rfl (Or.inl rfl) (pe_lst (pa_cons (pe_cmpR (op_eqFQ OO rfl rfl rfl rfl rfl (hr.mono (by decide))) (pv 0) (pv 1) (nomark _)) (pa_cons (pe_cmpR (op_eqFQ OO rfl rfl rfl rfl rfl (hr.mono (by decide))) (pv 1) (pv 0) (nomark _)) (pa_cons (pe_cmpR (op_neFQ OO rfl rfl rfl rfl rfl (hr.mono (by decide))) (pv 0) (pv 1) (nomark _)) (pa_cons (pe_cmpR (op_neFQ OO rfl rfl rfl rfl rfl (hr.mono (by decide))) (pv 1) (pv 0) (nomark _)) (pa_cons (pe_cmpR (op_inFQ OO rfl rfl rfl rfl rfl (hr.mono (by decide))) (pv 0) (pe_lst (pa_cons (pv 1) pa_nil)) (by with_unfolding_all rfl)) (pa_cons (pe_cmpR (op_inTFQ OO rfl rfl rfl rfl rfl (hr.mono (by decide))) (pv 1) (pe_tup (pa_cons (pv 0) pa_nil)) (by with_unfolding_all rfl)) pa_nil))))))))
    (pss_one (ps_ret (pe_cmpR op_eq (pe_callB (cr_repr (n := 4) (hr.mono (by decide)) gd) (by rfl) hrp (by decide +kernel) (pa_cons (pv 3) pa_nil)) (pe_callB (cr_repr (n := 4) (hr.mono (by decide)) gd) (by rfl) hrp (by decide +kernel) (pa_cons (pe_lst (pa_cons (pv 2) (pa_cons (pv 2) (pa_cons (pe_not (pv 2)) (pa_cons (pe_not (pv 2)) (pa_cons (pv 2) (pa_cons (pv 2) pa_nil))))))) pa_nil)) (nomark _))))), (ss_seq (ss_set 3 (SF.se (sf_lst (sa_cons (se_op sr_eqF (se_var 0) (se_var 1)) (sa_cons (se_op sr_eqF (se_var 1) (se_var 0)) (sa_cons (se_op sr_eqF (se_var 0) (se_var 1)) (sa_cons (se_op sr_eqF (se_var 1) (se_var 0)) (sa_cons (se_op sr_inF (se_var 0) (SF.se (sf_lst (sa_cons (se_var 1) sa_nil)))) (sa_cons (se_op sr_inTF (se_var 1) (se_tup (sa_cons (se_var 0) sa_nil))) sa_nil)))))))))
    (ss_ret (se_op sr_eq (se_cb (sc_repr2 (ow _ _ _ _ _ _ _ _ _ _) rfl) (sa_cons (se_var 3) sa_nil)) (se_cb (sc_repr2 (ow _ _ _ _ _ _ _ _ _ _) rfl) (sa_cons (SF.se (sf_lst (sa_cons (se_var 2) (sa_cons (se_var 2) (sa_cons (se_notV (se_var 2)) (sa_cons (se_notV (se_var 2)) (sa_cons (se_var 2) (sa_cons (se_var 2) sa_nil)))))))) sa_nil))))), (by decide), ?_⟩
    rintro ds Q ⟨n, d, b, rfl, pd, a1, a2, kQ⟩
    have pn : (nD N n).pd = true := rfl
    have pl1 : D.pdL [d] = true := by
      show (d.pd && true) = true
      rw [pd]
      rfl
    refine ⟨_, _, b, rfl, rfl, pn, pd, a1, _, _, b, rfl, rfl, pd, pn, a2, _, _, b, rfl, rfl, pn, pd, a1, _, _, b, rfl, rfl, pd, pn, a2, ?_⟩
    refine ⟨sl1, _, [d], fun _ => b, rfl, rfl, pn, pl1, fun i e h => ?_, ?_⟩
    · cases i with
      | zero => cases h; exact a2
      | succ i => cases h
    refine ⟨sl1, _, [nD N n], fun _ => b, rfl, rfl, pd, rfl, fun i e h => ?_, ?_⟩
    · cases i with
      | zero => cases h; exact a1
      | succ i => cases h
    refine ⟨(by decide : 6 ≤ sizeLine), ?_⟩
    have ea : ((List.range [d].length).any fun _ => b) = b := by cases b <;> rfl
    have eb : ((List.range [nD N n].length).any fun _ => b) = b := by cases b <;> rfl
    rw [ea, eb]
    have ro : D.ro2 (goodN N) (bls b) 4 := by cases b <;> exact ⟨_, rfl, trivial, trivial, trivial, trivial, trivial, trivial, trivial⟩
    have ln : (D.re2 ownN (bls b)).length ≤ sizeLine := by cases b <;> exact Nat.le_trans (by decide +kernel : _ ≤ 1000) (by decide)
    refine ⟨bls b, rfl, rfl, ro, ln, ?_⟩
    refine ⟨(by decide : 6 ≤ sizeLine), bls b, rfl, rfl, ro, ln, rfl, ?_⟩
    show Q (.bl (if false = true then _ else decide _))
    rw [if_neg Bool.false_ne_true, decide_eq_true rfl]
    exact kQ
end
end K
namespace K
open PySem PySem.Spec PyProof.Rows L2 Rp
variable [TabT]
section
variable {X : Cx} {C f : Addr} {fd : FuncData} {ps : List Str} {sp : Sp} {n : Nat} {E : XK} {CX : CXT}
def tFmtRO (C : Addr) (sp : Sp) (E : XK) (te : TE) : TE := fun σ H Q => te σ H fun x H1 => ∃ a dx fs, x = .ref a ∧ H1 a = some (.ins C dx fs) ∧ sp [.ref a] H1 (fun v H' => ∃ t, v = .str t ∧ t.length ≤ sizeLine ∧ Q (.str t) H') E
/-- {x!r} in a text, x of a class with its own __repr__ -/
theorem pe_fmtRO {e : Expr} {te : TE} {pos : Pos} (he : PE X e te) (F : FnOk X.prog X.w X.K X.mg X.base CX n f fd ps sp) (hs : PySem.W.findIn X.K (.ref C) "__repr__" = some (some (.ref f))) (hf : PySem.W.isFn X.K (.ref f) = true) (hb : Binds X.K fd ps []) (hx : Passes CX X E) (hr : Room (n + 1) X.A) : PE X (.FormattedValue e 114 none pos) (tFmtRO C sp E te) := by
  refine ⟨fun pins s σ H Q I h => ?_⟩
  refine wpAny_FormattedValue_repr (thn (he.run pins s σ H _ I h) fun v s1 hv => ?_)
  obtain ⟨x, H1, I1, r1, a, dx, fs, rfl, ha, hsp⟩ := hv
  have eu : v = .ref a := r1
  subst eu
  obtain ⟨mA, J, _⟩ := ins_get I1.hok ha
  obtain ⟨od, J, _⟩ := J.look
  have hu : X.A.units + 1 < cLine := by have := hr.un; omega
  have hsl : ∀ {Q' : Option Value → Shared → Prop}, Q' (some (.ref f)) s1 → wpAny (model X.prog X.w) X.A (specialOf (.ref a) (Str.ofString "__repr__")) Q' X.xe s1 := fun q => by
    unfold specialOf
    exact wpAny_bind (J.type.here ((PySem.W.looks_findIn I1.kIn hs).here q))
  unfold pyReprObj
  refine wpAny_bind (wpAny_cRoomFor (by omega) ?_)
  refine wpAny_bind (hsl ?_)
  show wpAny _ _ (if (some _ : Option Value).isNone = true then _ else _) _ _ _
  rw [if_neg (by simp)]
  refine wpAny_bind (PySem.W.ifBound_K I1.kIn J hs hf (wpAny_mono (callee1 F hb hx (hr.mono (by omega)) rfl I1 (x := .ref a) rfl hsp) (fun v s' k => ?_) fun _ _ k => k))
  obtain ⟨y, H', I', ry, t, rfl, hz, q⟩ := k
  obtain ⟨tk, rfl⟩ := ry
  exact wpAny_bind (wpAny_isInstance (typeIs_str _ _ _) isSubtype_str_str (wpAny_pure (wpAny_formatField_str ⟨.str t, H', I', ⟨tk, rfl⟩, q⟩ ⟨.str t, H', I'.tok _, ⟨_, rfl⟩, q⟩ hz)))
end
section
variable {K : PySem.W.Frag} {κ1 c : Nat} {π : List D → (D → Prop) → Prop} {C : Addr} {E : XK}
theorem se_fmtRO {t : TE} {τ : TDE} (h : SE K κ1 t τ) : SE K (κ1 + c) (tFmtRO C (spD K c π) E t) (fun δ Q => τ δ fun y => ∃ fs, y = .d (.ins C fs) ∧ π [.ins C fs] fun d => ∃ x : Str, d = .str x ∧ x.length ≤ sizeLine ∧ Q (.d (.str x))) := ⟨fun H0 M0 H M σ δ Q Qd s q k => h.run H0 M0 H M σ δ _ _ s.l q fun y v H1 M1 w1 e1 n z => by
  obtain ⟨fs, rfl, z⟩ := z
  obtain ⟨a, dx, ws, rfl, hA, z⟩ := own_says (E := E) (s.xe w1 e1) n z fun d u H' M' w' e' n' q' => (by
    obtain ⟨x, rfl, lz, q'⟩ := q'
    have n' : u = .str x := n'
    exact ⟨x, n', lz, k (.d (.str x)) _ H' M' w' (e1.trans e') rfl q'⟩ : ∃ x : Str, u = .str x ∧ x.length ≤ sizeLine ∧ Q (.str x) H')
  exact ⟨a, dx, ws, rfl, hA, z⟩⟩
end
end K
namespace K
open PySem L2 Rp
variable [TabT]
def Pl (x : Str) : Prop := ∀ c ∈ x.cps.toList, (48 ≤ c ∧ c ≤ 57) ∨ (97 ≤ c ∧ c ≤ 122)
theorem char_fig : ∀ d, d < 10 → Builtin.Str.reprChar 39 (48 + d) = [48 + d] := by decide +kernel
theorem char_low : ∀ d, d < 26 → Builtin.Str.reprChar 39 (97 + d) = [97 + d] := by decide +kernel
theorem char_pl {c : Nat} (h : (48 ≤ c ∧ c ≤ 57) ∨ (97 ≤ c ∧ c ≤ 122)) : Builtin.Str.reprChar 39 c = [c] := by
  rcases h with h | h
  · have e := char_fig (c - 48) (by omega)
    rwa [show 48 + (c - 48) = c by omega] at e
  · have e := char_low (c - 97) (by omega)
    rwa [show 97 + (c - 97) = c by omega] at e
theorem fold_pl : ∀ (l : List Nat) (acc : Array Nat), (∀ c ∈ l, (48 ≤ c ∧ c ≤ 57) ∨ (97 ≤ c ∧ c ≤ 122)) → (l.foldl (fun out c => out ++ (Builtin.Str.reprChar 39 c).toArray) acc).toList = acc.toList ++ l
  | [], acc, _ => (List.append_nil _).symm
  | c :: l, acc, h => by
    rw [List.foldl_cons, fold_pl l _ (fun d hd => h d (List.mem_cons_of_mem _ hd)), char_pl (h c List.mem_cons_self), Array.toList_append, List.append_assoc]
    rfl
theorem reprP {x : Str} (h : Pl x) : reprText x = "'" ++ x ++ "'" := by
  have q : reprQuote x = 39 := by
    unfold reprQuote
    have : x.cps.contains 39 = false := by
      cases e : x.cps.contains 39 with
      | false => rfl
      | true =>
        have hm : 39 ∈ x.cps.toList := by simpa using e
        have := h 39 hm
        omega
    rw [this]
    rfl
  have e : TL.tl (reprText x) = 39 :: (TL.tl x ++ [39]) := by
    unfold reprText
    rw [q]
    show (Array.push _ 39).toList = _
    rw [Array.toList_push, ← Array.foldl_toList, fold_pl _ _ h]
    rfl
  refine TL.ext_tl ?_
  rw [e, TL.tl_append, TL.tl_append, show TL.tl ("'" : Str) = [39] from by decide +kernel]
  rfl
theorem pl_name {x : Str} (h : nmV (.str x) = true) : Pl x := by
  have h : (decide (1 ≤ (x.length : Int)) && (decide ((x.length : Int) ≤ 8) && x.cps.toList.all (inL LETS))) = true := h
  simp only [Bool.and_eq_true] at h
  intro c hc
  have hl := List.all_eq_true.mp h.2.2 c hc
  have hm : c ∈ (LETS : Str).cps.toList := of_decide_eq_true hl
  have all : ∀ c ∈ (LETS : Str).cps.toList, 97 ≤ c ∧ c ≤ 122 := by decide +kernel
  exact .inr (all c hm)
def πNStr (N : Addr) : List D → (D → Prop) → Prop := fun ds Q => ∃ n : N4, ds = [nD N n] ∧ NOk n ∧ Sz 1600 n.2.2.1 ∧ Q (.str (nS n.1 n.2.1 n.2.2.1 n.2.2.2))
def πNRepr (N : Addr) : List D → (D → Prop) → Prop := fun ds Q => ∃ n : N4, ds = [nD N n] ∧ NOk n ∧ Sz 1600 n.2.2.1 ∧ Q (.str (nR n.1 n.2.1 n.2.2.1 n.2.2.2))
def πShown (N : Addr) : List D → (D → Prop) → Prop := fun ds Q => ∃ n : N4, ds = [nD N n] ∧ NOk n ∧ Sz 1600 n.2.2.1 ∧ Q (.bl true)
theorem nR_is {n : N4} (ok : NOk n) : "Note('" ++ n.1 ++ "', '" ++ n.2.1 ++ "', " ++ nT n.2.2.1 ++ ", " ++ nT n.2.2.2 ++ ")" = nR n.1 n.2.1 n.2.2.1 n.2.2.2 := by
  unfold nR
  rw [reprP (pl_name ok.mx), reprP (pl_name ok.my)]
  have e1 : ("Note('" : Str) = "Note(" ++ "'" := by decide +kernel
  have e2 : ("', '" : Str) = "'" ++ ", " ++ "'" := by decide +kernel
  have e3 : ("', " : Str) = "'" ++ ", " := by decide +kernel
  rw [e1, e2, e3]
  refine TL.ext_tl ?_
  simp only [TL.tl_append, List.append_assoc]
section
variable {P : Program} {w : World} {K : PySem.W.Frag} {mg : Str → Option Value} {base : Heap}
theorem od_nstr {f N : Addr} {fd : FuncData} (F : FnOk P w K mg base CX0 2 f fd ["self"] (spNStr N)) : FnOk P w K mg base CX0 2 f fd ["self"] (spD K 0 (πNStr N)) := toD F fun H M ds vs Q Qd E _ wd n h q => by
  obtain ⟨m, rfl, ok, sz, z⟩ := h
  obtain ⟨v, ws, rfl, nv, nn⟩ := n
  have nn : ws = [] := nn
  subst nn
  obtain ⟨a, rfl, hn⟩ := nD_addr (Dn.m0 _ _ nD_pure nv)
  refine ⟨a, m.1, m.2.1, m.2.2.1, m.2.2.2, rfl, hn, ok, sz, fun H' s => ?_⟩
  obtain ⟨w', x'⟩ := same_xe wd s
  exact q (.str _) _ H' M w' x' rfl z
theorem od_nrepr {f N : Addr} {fd : FuncData} (F : FnOk P w K mg base CX0 2 f fd ["self"] (spNRepr N)) : FnOk P w K mg base CX0 2 f fd ["self"] (spD K 0 (πNRepr N)) := toD F fun H M ds vs Q Qd E _ wd n h q => by
  obtain ⟨m, rfl, ok, sz, z⟩ := h
  obtain ⟨v, ws, rfl, nv, nn⟩ := n
  have nn : ws = [] := nn
  subst nn
  obtain ⟨a, rfl, hn⟩ := nD_addr (Dn.m0 _ _ nD_pure nv)
  refine ⟨a, m.1, m.2.1, m.2.2.1, m.2.2.2, rfl, hn, ok, sz, fun H' s => ?_⟩
  obtain ⟨w', x'⟩ := same_xe wd s
  exact q (.str _) _ H' M w' x' rfl z
theorem scLShown : FnScope ["_law_note", "_law_called", "_law_goods", "_law_many", "_law_since", "_law_text", "_law_row"] ["_law_note"] (defScope sLShown) := ⟨rfl, rfl, rfl, by decide +kernel, rfl, by decide +kernel, by decide +kernel⟩
theorem od_shown {f N fFi fSt fRe : Addr} {fd dFi dSt dRe : FuncData} (F : Fun K "_law_shown" "_law_shown" sLShown f fd) (hst : mg "str" = none) (hrp : mg "repr" = none)
    (cFi : Cl K mg "_law_fields" fFi dFi ["_law_note"]) (GFi : FnOk P w K mg base CX0 1 fFi dFi ["_law_note"] (spD K 0 (πFieldsA N)))
    (GSt : FnOk P w K mg base CX0 2 fSt dSt ["self"] (spD K 0 (πNStr N))) (aSt : PySem.W.findIn K (.ref N) "__str__" = some (some (.ref fSt))) (iSt : PySem.W.isFn K (.ref fSt) = true) (bSt : Binds K dSt ["self"] [])
    (fmN : PySem.W.findIn K (.ref N) "__format__" = some (some (.builtin "object.__format__"))) (mN : PySem.W.mroIn K N (.type "object") = some true)
    (GRe : FnOk P w K mg base CX0 2 fRe dRe ["self"] (spD K 0 (πNRepr N))) (aRe : PySem.W.findIn K (.ref N) "__repr__" = some (some (.ref fRe))) (iRe : PySem.W.isFn K (.ref fRe) = true) (bRe : Binds K dRe ["self"] [])
    (ow : ∀ N' qual sc f cdv A outer s H E, OwnSays (cxOf CX0 P w K mg base N' qual sc f cdv A outer s H E).nox K (goodN N) ownN) : FnG P w K mg base CX0 7 f fd ["_law_note"] (spD K 10 (πShown N)) := by
  refine okGD F scLShown (fun ds Q h => ?_) (fun cdv A outer s H E gd hr => ?_)
  · obtain ⟨_, rfl, _⟩ := h
    rfl
  · refine ⟨_, _, _, (pss_cons (ps_asg (pe_call GFi (hr.mono (by decide)) (by rfl) cFi.g cFi.k cFi.b .nil pass0 (pa_cons (pv 0) pa_nil)) (pg_tup rfl (pgs_cons (pg_name (i := 1) scLShown.nd rfl (Or.inl rfl)) (pgs_cons (pg_name (i := 2) scLShown.nd rfl (Or.inl rfl)) (pgs_cons (pg_name (i := 3) scLShown.nd rfl (Or.inl rfl)) (pgs_cons (pg_name (i := 4) scLShown.nd rfl (Or.inl rfl)) pgs_nil))))))
    (pss_cons (ps_set (i := 5) scLShown.nd rfl (Or.inl rfl) (pe_op op_add_str (pe_op op_add_str (pe_op op_add_str (pe_op op_add_str (pe_op op_add_str (pe_op op_add_str (pv 1) pe_str) (pe_callTy call_str_int (by rfl) hst (by decide +kernel) (pa_cons (pv 3) pa_nil))) pe_str) (pv 2)) pe_str) (pe_callTy call_str_int (by rfl) hst (by decide +kernel) (pa_cons (pv 4) pa_nil))))
    (pss_cons (ps_set (i := 6) scLShown.nd rfl (Or.inl rfl) (pe_op op_add_str (pe_op op_add_str (pe_op op_add_str (pe_op op_add_str (pe_op op_add_str (pe_op op_add_str (pe_op op_add_str (pe_op op_add_str pe_str (pv 1)) pe_str) (pv 2)) pe_str) (pe_callTy call_str_int (by rfl) hst (by decide +kernel) (pa_cons (pv 3) pa_nil))) pe_str) (pe_callTy call_str_int (by rfl) hst (by decide +kernel) (pa_cons (pv 4) pa_nil))) pe_str))
    (pss_one (ps_ret (pe_and (pe_cmpR op_eq (pe_callTy (cr_strO GSt aSt iSt bSt (E := E0) pass0 (hr.mono (by decide))) (by rfl) hst (by decide +kernel) (pa_cons (pv 0) pa_nil)) (pv 5) (nomark _)) (pe_and (pe_cmpR op_eq (pe_callB (cr_repr (n := 4) (hr.mono (by decide)) gd) (by rfl) hrp (by decide +kernel) (pa_cons (pv 0) pa_nil)) (pv 6) (nomark _)) (pe_and (pe_cmpR op_eq (pe_joined1 (pe_fmtO (pv 0) GSt aSt iSt fmN mN bSt pass0 (hr.mono (by decide)))) (pv 5) (nomark _)) (pe_one (pe_cmpR op_eq (pe_joined1 (pe_fmtRO (pv 0) GRe aRe iRe bRe pass0 (hr.mono (by decide)))) (pv 6) (nomark _))))))))))), (ss_seq (ss_asg (se_callN (sa_cons (se_var 0) sa_nil)) (sg_tup (sgs_cons (sg_name 1) (sgs_cons (sg_name 2) (sgs_cons (sg_name 3) (sgs_cons (sg_name 4) sgs_nil))))))
    (ss_seq (ss_set 5 (se_op sr_add_str (se_op sr_add_str (se_op sr_add_str (se_op sr_add_str (se_op sr_add_str (se_op sr_add_str (se_var 1) se_str) (se_cb sc_strI (sa_cons (se_var 3) sa_nil))) se_str) (se_var 2)) se_str) (se_cb sc_strI (sa_cons (se_var 4) sa_nil))))
    (ss_seq (ss_set 6 (se_op sr_add_str (se_op sr_add_str (se_op sr_add_str (se_op sr_add_str (se_op sr_add_str (se_op sr_add_str (se_op sr_add_str (se_op sr_add_str se_str (se_var 1)) se_str) (se_var 2)) se_str) (se_cb sc_strI (sa_cons (se_var 3) sa_nil))) se_str) (se_cb sc_strI (sa_cons (se_var 4) sa_nil))) se_str))
    (ss_ret (se_andV (se_op sr_eq (se_strO (sa_cons (se_var 0) sa_nil)) (se_var 5)) (se_andV (se_op sr_eq (se_cb (sc_repr2 (ow _ _ _ _ _ _ _ _ _ _) rfl) (sa_cons (se_var 0) sa_nil)) (se_var 6)) (se_andV (se_op sr_eq (se_fmtO (se_var 0)) (se_var 5)) (se_op sr_eq (se_fmtRO (se_var 0)) (se_var 6))))))))), (by decide), ?_⟩
    rintro ds Q ⟨n, rfl, ok, sz, kQ⟩
    have small : ∀ k : Nat, k ≤ 1000000 → k ≤ sizeLine := fun k h => Nat.le_trans h (by decide)
    have lx := (nm_len ok.mx).2
    have ly := (nm_len ok.my).2
    have lg := nT_len sz
    have zb : Sz 1600 n.2.2.2 := Sz.mono (a := 20) (by have := ok.b0; have := ok.b1; unfold Sz; omega) (by decide)
    have lb := nT_len zb
    have c1 : (" " : Str).length = 1 := by decide +kernel
    have c2 : ("Note('" : Str).length = 6 := by decide +kernel
    have c3 : ("', '" : Str).length = 4 := by decide +kernel
    have c4 : ("', " : Str).length = 3 := by decide +kernel
    have c5 : (", " : Str).length = 2 := by decide +kernel
    have c6 : (")" : Str).length = 1 := by decide +kernel
    have lgg : n.2.2.1.natAbs.log2 < 1920 := Nat.lt_trans (sz.log (by decide)) (by decide)
    have lgb : n.2.2.2.natAbs.log2 < 1920 := Nat.lt_trans (zb.log (by decide)) (by decide)
    have L : ∀ a b : Str, (a ++ b).length = a.length + b.length := append_len
    have ns : ∀ v : V, (if false = true then !decide (v = v) else decide (v = v)) = true := fun v => by
      rw [if_neg Bool.false_ne_true, decide_eq_true rfl]
    refine ⟨n, rfl, rfl, rfl, ?_⟩
    refine ⟨small _ (by omega), n.2.2.1, rfl, lgg, small _ (by simp only [L]; omega), small _ (by simp only [L]; omega), small _ (by simp only [L]; omega), small _ (by simp only [L]; omega), n.2.2.2, rfl, lgb, small _ (by simp only [L]; omega), ?_⟩
    refine ⟨small _ (by omega), small _ (by simp only [L]; omega), small _ (by simp only [L]; omega), small _ (by simp only [L]; omega), n.2.2.1, rfl, lgg, small _ (by simp only [L]; omega), small _ (by simp only [L]; omega), n.2.2.2, rfl, lgb, small _ (by simp only [L]; omega), small _ (by simp only [L]; omega), ?_⟩
    rw [nR_is ok]
    have rp : D.re2 ownN (nD N n) = nR n.1 n.2.1 n.2.2.1 n.2.2.2 := rfl
    have rl : (D.re2 ownN (nD N n)).length ≤ sizeLine := small _ (Nat.le_trans (nR_len ok sz) (by decide))
    refine ⟨_, rfl, n, rfl, ok, sz, _, rfl, rfl, bT (ns _) ?_⟩
    refine ⟨nD N n, rfl, rfl, ⟨by decide, rfl, n, rfl, ok, sz⟩, rl, rfl, bT (ns _) ?_⟩
    refine ⟨_, rfl, n, rfl, ok, sz, _, rfl, rfl, bT (ns _) ?_⟩
    refine ⟨_, rfl, n, rfl, ok, sz, _, rfl, rl, rfl, ?_⟩
    show Q (.bl (if false = true then _ else decide _))
    rw [if_neg Bool.false_ne_true, decide_eq_true rfl]
    exact kQ
end
end K
namespace K
open PySem L2 Rp
variable [TabT]
/-! ### other Notes, the law of one Note -/
structure GOk (s : Nat) (n : N4) : Prop where
  ok : NOk n
  sz : Sz s n.2.2.1
theorem GOk.mono {s t : Nat} {n : N4} (h : GOk s n) (l : s ≤ t) : GOk t n := ⟨h.ok, h.sz.mono l⟩
def πOthers : List D → (D → Prop) → Prop := fun ds Q => ∃ n : N4, ds = [.deck, fD n] ∧ GOk 140 n ∧ ∀ ms : List N4, ms.length ≤ 10 → (∀ m ∈ ms, GOk 150 m) → Q (.lst (ms.map fD))
theorem mul2 (k : Nat) : CMul 2 (0 + (k : Int)) := .inl (by decide)
theorem ok_of {x y : Str} {g b : Int} (hx : nmV (.str x) = true ∧ Asc x) (hy : nmV (.str y) = true ∧ Asc y) (g1 : 1 ≤ g) (b0 : 0 ≤ b) (b1 : b ≤ 1200) : NOk (x, y, g, b) := ⟨hx.1, hy.1, g1, b0, b1, hx.2, hy.2⟩
section
variable {P : Program} {w : World} {K : PySem.W.Frag} {mg : Str → Option Value} {base : Heap}
theorem scLOthers : FnScope ["_law_deck_here", "_law_parts", "_law_called", "_law_goods", "_law_many", "_law_since", "_law_more", "_law_found", "_law_turn", "_law_some", "_law_k", "_law_at"] ["_law_deck_here", "_law_parts"] (defScope sLOthers) := ⟨rfl, rfl, rfl, by decide +kernel, rfl, by decide +kernel, by decide +kernel⟩
theorem od_others {f fD_ fNa : Addr} {fd dD dNa : FuncData} (F : Fun K "_law_others" "_law_others" sLOthers f fd) (hrg : mg "range" = none) (htu : mg "tuple" = none) (hli : mg "list" = none)
    (cD : Cl K mg "_law_draw" fD_ dD ["_law_deck_here", "_law_most"]) (GD : FnOk P w K mg base CX0 1 fD_ dD ["_law_deck_here", "_law_most"] (spD K 1 πDraw))
    (cNa : Cl K mg "_law_names" fNa dNa ["_law_deck_here", "_law_many"]) (GNa : FnOk P w K mg base CX0 2 fNa dNa ["_law_deck_here", "_law_many"] (spD K 1000000000 πNames)) : FnOk P w K mg base CX0 3 f fd ["_law_deck_here", "_law_parts"] (spD K (10 ^ 24) πOthers) := by
  refine okD F scLOthers (fun ds Q h => ?_) (fun cdv A outer s H E hr => ?_)
  · obtain ⟨_, rfl, _⟩ := h
    rfl
  · refine ⟨_, _, _, (pss_cons (ps_asg (pv 1) (pg_tup rfl (pgs_cons (pg_name (i := 2) scLOthers.nd rfl (Or.inl rfl)) (pgs_cons (pg_name (i := 3) scLOthers.nd rfl (Or.inl rfl)) (pgs_cons (pg_name (i := 4) scLOthers.nd rfl (Or.inl rfl)) (pgs_cons (pg_name (i := 5) scLOthers.nd rfl (Or.inl rfl)) pgs_nil))))))
    (pss_cons (ps_set (i := 6) scLOthers.nd rfl (Or.inl rfl) (pe_call GNa (hr.mono (by decide)) (by rfl) cNa.g cNa.k cNa.b .nil pass0 (pa_cons (pv 0) (pa_cons pe_int pa_nil))))
    (pss_cons (ps_set (i := 7) scLOthers.nd rfl (Or.inl rfl) (pe_lst pa_nil))
    (pss_cons (ps_for PassesOwn.never rfl (pi_range1 (by rfl) hrg (pa_cons pe_int pa_nil)) (pg_name (i := 8) scLOthers.nd rfl (Or.inl rfl))
      (pss_cons (ps_set (i := 9) scLOthers.nd rfl (Or.inl rfl) (pe_callTy call_list_of (by rfl) hli (by decide +kernel) (pa_cons (pv 1) pa_nil)))
    (pss_cons (ps_for PassesOwn.never rfl (pi_range1 (by rfl) hrg (pa_cons (pe_op op_add pe_int (pe_op op_fdiv (pv 8) pe_int)) pa_nil)) (pg_name (i := 10) scLOthers.nd rfl (Or.inl rfl))
      (pss_cons (ps_set (i := 11) scLOthers.nd rfl (Or.inl rfl) (pe_op op_mod (pe_op op_add (pv 8) (pe_op op_mul pe_int (pv 10))) pe_int))
    (pss_one (ps_asg (pe_ix ix_list (pe_lst (pa_cons (pe_ix ix_list (pv 6) (pe_op op_mod (pv 8) pe_int) (fun _ _ => rfl)) (pa_cons (pe_ix ix_list (pv 6) (pe_op op_mod (pe_op op_add (pv 8) pe_int) pe_int) (fun _ _ => rfl)) (pa_cons (pe_op op_add (pe_op op_add (pv 4) pe_int) (pe_call GD (hr.mono (by decide)) (by rfl) cD.g cD.k cD.b .nil pass0 (pa_cons (pv 0) (pa_cons pe_int pa_nil)))) (pa_cons (pe_op op_mod (pe_op op_add (pv 5) pe_int) pe_int) pa_nil))))) (pv 11) (fun _ _ => rfl)) (pg_sub (pv 9) (pv 11) set_list)))))
    (pss_one (ps_expr (pe_bm PySem.F.plainAttrs_list PySem.F.slot_list_append PySem.F.type_list_append mt_append (pv 7) (pa_cons (pe_callTy call_tuple_of (by rfl) htu (by decide +kernel) (pa_cons (pv 9) pa_nil)) pa_nil)))))))
    (pss_cons (ps_expr (pe_bm PySem.F.plainAttrs_list PySem.F.slot_list_append PySem.F.type_list_append mt_append (pv 7) (pa_cons (pe_tup (pa_cons (pv 3) (pa_cons (pv 2) (pa_cons (pv 4) (pa_cons (pv 5) pa_nil))))) pa_nil)))
    (pss_cons (ps_if (PW.pt (pw_and (pt_cmpR op_le (pv 4) pe_int (nomark _)) (pw_and1 (pt_cmpR op_gt (pv 5) pe_int (nomark _))))) (pss_one (ps_expr (pe_bm PySem.F.plainAttrs_list PySem.F.slot_list_append PySem.F.type_list_append mt_append (pv 7) (pa_cons (pe_tup (pa_cons (pv 2) (pa_cons (pv 3) (pa_cons (pv 5) (pa_cons (pv 4) pa_nil))))) pa_nil)))) pss_nil)
    (pss_one (ps_ret (pv 7))))))))), (ss_seq (ss_asg (se_var 1) (sg_tup (sgs_cons (sg_name 2) (sgs_cons (sg_name 3) (sgs_cons (sg_name 4) (sgs_cons (sg_name 5) sgs_nil))))))
    (ss_seq (ss_set 6 (se_callN (sa_cons (se_var 0) (sa_cons se_int sa_nil))))
    (ss_seq (ss_own 7 (sf_lst sa_nil))
    (ss_seq (ss_for (si_rng1 (sa_cons se_int sa_nil)) (sg_name 8)
      (ss_seq (ss_own 9 (sf_list (sa_cons (se_var 1) sa_nil)))
    (ss_seq (ss_for (si_rng1 (sa_cons (se_op sr_add se_int (se_op sr_fdiv (se_var 8) se_int)) sa_nil)) (sg_name 10)
      (ss_seq (ss_set 11 (se_op sr_mod (se_op sr_add (se_var 8) (se_op sr_mul se_int (se_var 10))) se_int))
    (ss_put 9 (se_op sr_ixL (SF.se (sf_lst (sa_cons (se_op sr_ixL (se_var 6) (se_op sr_mod (se_var 8) se_int)) (sa_cons (se_op sr_ixL (se_var 6) (se_op sr_mod (se_op sr_add (se_var 8) se_int) se_int)) (sa_cons (se_op sr_add (se_op sr_add (se_var 4) se_int) (se_callN (sa_cons (se_var 0) (sa_cons se_int sa_nil)))) (sa_cons (se_op sr_mod (se_op sr_add (se_var 5) se_int) se_int) sa_nil)))))) (se_var 11)) (se_var 11))))
    (ss_app 7 (se_cb sc_tuple (sa_cons (se_var 9) sa_nil))))))
    (ss_seq (ss_app 7 (se_tup (sa_cons (se_var 3) (sa_cons (se_var 2) (sa_cons (se_var 4) (sa_cons (se_var 5) sa_nil))))))
    (ss_seq (ss_if (st_and (st_test (se_op sr_le (se_var 4) se_int)) (st_test (se_op sr_gt (se_var 5) se_int))) (ss_app 7 (se_tup (sa_cons (se_var 2) (sa_cons (se_var 3) (sa_cons (se_var 5) (sa_cons (se_var 4) sa_nil)))))) ss_nil)
    (ss_ret (se_var 7)))))))), (by decide), ?_⟩
    rintro ds Q ⟨n, rfl, ok, kQ⟩
    have small : ∀ k : Nat, k ≤ 1000000 → k ≤ sizeLine := fun k h => Nat.le_trans h (by decide)
    refine ⟨rfl, rfl, ?_⟩
    refine ⟨3, rfl, by decide, fun xs l3 nd nm => ?_⟩
    refine ⟨Nat.zero_le _, ?_⟩
    dsimp only [List.set]
    have mx : ∀ i : Int, 0 ≤ i → ∃ x, L2.atI (xs.map D.str) (i % 3) = some (.str x) ∧ nmV (.str x) = true ∧ Asc x := fun i i0 => by
      have h0 := Int.emod_nonneg i (by decide : (3 : Int) ≠ 0)
      have h1 := Int.emod_lt_of_pos i (by decide : (0 : Int) < 3)
      obtain ⟨r, hr⟩ : ∃ r : Nat, i % 3 = (r : Int) := ⟨(i % 3).toNat, by omega⟩
      have lr : r < xs.length := by omega
      have hm := nm _ (List.getElem_mem lr)
      exact ⟨xs[r], by rw [hr]; exact atI_nat (by rw [List.getElem?_map, List.getElem?_eq_getElem lr]; rfl), hm.1, hm.2⟩
    refine ⟨8, rfl, by decide, by decide, by rw [rngD_len]; decide, ?_⟩
    refine ⟨fun k δ => ∃ (ms : List N4) (u8 u9 u10 u11 : DV), δ = [.dat .deck, .dat (fD n), .dat (.str n.1), .dat (.str n.2.1), .dat (.int n.2.2.1), .dat (.int n.2.2.2), .dat (.lst (xs.map D.str)), .own (ms.map fD), u8, u9, u10, u11] ∧ ms.length = k ∧ ∀ m ∈ ms, GOk 150 m, ⟨[], _, _, _, _, rfl, rfl, fun _ z => nomatch z⟩, ?_, ?_⟩
    · rintro j d δ e ⟨ms, u8, u9, u10, u11, rfl, lm, okm⟩
      obtain ⟨jl, rfl⟩ := rngD_at e
      have j8 : j < 8 := jl
      refine ⟨_, _, rfl, rfl, ?_⟩
      dsimp only [List.set]
      have j4 : (0 : Int) ≤ (0 + (j : Int)) / 4 ∧ (0 + (j : Int)) / 4 ≤ 2 := by omega
      refine ⟨⟨by decide, by decide⟩, 1 + (0 + (j : Int)) / 4, rfl, by omega, by omega, by rw [rngD_len]; exact small _ (by omega), ?_⟩
      refine ⟨fun k δ => ∃ (m : N4) (v10 v11 : DV), δ = [.dat .deck, .dat (fD n), .dat (.str n.1), .dat (.str n.2.1), .dat (.int n.2.2.1), .dat (.int n.2.2.2), .dat (.lst (xs.map D.str)), .own (ms.map fD), .dat (.int (0 + (j : Nat))), .own [.str m.1, .str m.2.1, .int m.2.2.1, .int m.2.2.2], v10, v11] ∧ GOk 150 m, ⟨n, _, _, rfl, ok.mono (by decide)⟩, ?_, ?_⟩
      · rintro k d δ e ⟨m, v10, v11, rfl, gm⟩
        obtain ⟨_, rfl⟩ := rngD_at e
        obtain ⟨x1, e1, h1⟩ := mx (0 + (j : Int)) (by omega)
        obtain ⟨x2, e2, h2⟩ := mx (0 + (j : Int) + 1) (by omega)
        obtain ⟨r, hr⟩ : ∃ r : Nat, (0 + (j : Int) + 2 * (0 + (k : Int))) % 4 = (r : Int) := ⟨((0 + (j : Int) + 2 * (0 + (k : Int))) % 4).toNat, by have := Int.emod_nonneg (0 + (j : Int) + 2 * (0 + (k : Int))) (by decide : (4 : Int) ≠ 0); omega⟩
        have r4 : r < 4 := by have := Int.emod_lt_of_pos (0 + (j : Int) + 2 * (0 + (k : Int))) (by decide : (0 : Int) < 4); omega
        refine ⟨mul2 k, (by decide : (0 : Int) < 4), ?_⟩
        dsimp only [List.set]
        rw [hr]
        refine ⟨(by decide : (0 : Int) < 3), _, _, _, rfl, rfl, e1, (by decide : (0 : Int) < 3), _, _, _, rfl, rfl, e2, 9, rfl, by decide, by decide, fun q q0 q1 => ⟨(by decide : (0 : Int) < 1201), sl4, ?_⟩⟩
        have b0 := Int.emod_nonneg (n.2.2.2 + 1) (by decide : (1201 : Int) ≠ 0)
        have b1 := Int.emod_lt_of_pos (n.2.2.2 + 1) (by decide : (0 : Int) < 1201)
        have g0 := ok.ok.g
        have gz : Sz 150 (n.2.2.1 + 1 + q) := by
          have := ok.sz
          unfold Sz at this ⊢
          omega
        have hm := gm.ok
        rcases r with _ | _ | _ | _ | r
        · refine ⟨_, ((0 : Nat) : Int), _, rfl, rfl, atI_nat rfl, 0, rfl, (x1, m.2.1, m.2.2.1, m.2.2.2), _, _, rfl, ⟨ok_of h1 ⟨hm.my, hm.ay⟩ hm.g hm.b0 hm.b1, gm.sz⟩⟩
        · refine ⟨_, ((1 : Nat) : Int), _, rfl, rfl, atI_nat rfl, 1, rfl, (m.1, x2, m.2.2.1, m.2.2.2), _, _, rfl, ⟨ok_of ⟨hm.mx, hm.ax⟩ h2 hm.g hm.b0 hm.b1, gm.sz⟩⟩
        · refine ⟨_, ((2 : Nat) : Int), _, rfl, rfl, atI_nat rfl, 2, rfl, (m.1, m.2.1, n.2.2.1 + 1 + q, m.2.2.2), _, _, rfl, ⟨ok_of ⟨hm.mx, hm.ax⟩ ⟨hm.my, hm.ay⟩ (by omega) hm.b0 hm.b1, gz⟩⟩
        · refine ⟨_, ((3 : Nat) : Int), _, rfl, rfl, atI_nat rfl, 3, rfl, (m.1, m.2.1, m.2.2.1, (n.2.2.2 + 1) % 1201), _, _, rfl, ⟨ok_of ⟨hm.mx, hm.ax⟩ ⟨hm.my, hm.ay⟩ hm.g b0 (by omega), gm.sz⟩⟩
        · omega
      rintro δ ⟨m, v10, v11, rfl, gm⟩
      refine ⟨_, _, rfl, rfl, by rw [List.length_map]; exact Nat.lt_of_le_of_lt (by omega : ms.length ≤ 100) (by decide), ms ++ [m], .dat (.int (0 + (j : Nat))), .own [.str m.1, .str m.2.1, .int m.2.2.1, .int m.2.2.2], v10, v11, ?_, by rw [List.length_append, lm]; rfl, fun q hq => (List.mem_append.mp hq).elim (okm q) fun h => by rw [List.mem_singleton.mp h]; exact gm⟩
      rw [List.map_append]
      rfl
    rintro δ ⟨ms, u8, u9, u10, u11, rfl, lm, okm⟩
    rw [rngD_len] at lm
    have lm : ms.length = 8 := lm
    have hx : nmV (.str n.1) = true ∧ Asc n.1 := ⟨ok.ok.mx, ok.ok.ax⟩
    have hy : nmV (.str n.2.1) = true ∧ Asc n.2.1 := ⟨ok.ok.my, ok.ok.ay⟩
    have sw : GOk 150 (n.2.1, n.1, n.2.2.1, n.2.2.2) := ⟨ok_of hy hx ok.ok.g ok.ok.b0 ok.ok.b1, ok.sz.mono (by decide)⟩
    refine ⟨sl4, by rw [List.length_map]; exact Nat.lt_of_le_of_lt (by omega : ms.length ≤ 100) (by decide), ?_⟩
    dsimp only [List.set]
    have e1 : ms.map fD ++ [D.tup [.str n.2.1, .str n.1, .int n.2.2.1, .int n.2.2.2]] = (ms ++ [(n.2.1, n.1, n.2.2.1, n.2.2.2)]).map fD := by rw [List.map_append]; rfl
    rw [e1]
    have o1 : ∀ m ∈ ms ++ [(n.2.1, n.1, n.2.2.1, n.2.2.2)], GOk 150 m := fun m hm => (List.mem_append.mp hm).elim (okm m) fun h => by rw [List.mem_singleton.mp h]; exact sw
    have l1 : (ms ++ [(n.2.1, n.1, n.2.2.1, n.2.2.2)]).length = 9 := by rw [List.length_append, lm]; rfl
    generalize ms ++ [(n.2.1, n.1, n.2.2.1, n.2.2.2)] = qs at o1 l1 ⊢
    by_cases h1 : n.2.2.1 ≤ 1200
    · refine bT (decide_eq_true h1) ?_
      by_cases h2 : 0 < n.2.2.2
      · refine bT (decide_eq_true h2) ⟨sl4, by rw [List.length_map]; exact Nat.lt_of_le_of_lt (by omega : qs.length ≤ 100) (by decide), ?_⟩
        have e2 : qs.map fD ++ [D.tup [.str n.1, .str n.2.1, .int n.2.2.2, .int n.2.2.1]] = (qs ++ [(n.1, n.2.1, n.2.2.2, n.2.2.1)]).map fD := by rw [List.map_append]; rfl
        dsimp only [List.set]
        rw [e2]
        have b1 := ok.ok.b1
        have g0 := ok.ok.g
        exact kQ _ (by rw [List.length_append, l1]; exact Nat.le_refl 10) fun m hm => (List.mem_append.mp hm).elim (o1 m) fun h => by
          rw [List.mem_singleton.mp h]
          exact ⟨ok_of hx hy (by omega) (by omega) h1, Sz.mono (a := 20) (by show Sz 20 n.2.2.2; unfold Sz; omega) (by decide)⟩
      · exact bF (decide_eq_false h2) (kQ _ (by omega) o1)
    · exact bF (decide_eq_false h1) (bF rfl (kQ _ (by omega) o1))
end
end K
namespace K
open PySem L2 Rp
variable [TabT]
/-! ### C(.., k = v) over data -/
section
variable {K : PySem.W.Frag} {κ1 κ2 : Nat}
theorem se_mkKw {C : Addr} {n m : Nat} {sp : Sp} {gV : List V → List V → List V} {E : XK} {t tk : TA} {r rk : TDA} {ρ : List DX → List DX → (D → Prop) → Prop} (h : SA K κ1 t r) (hk : SA K κ2 tk rk)
    (hm : ∀ H0 H M xs vs ys zs (Qd : D → Prop), Wd H M → DxL K H0 H M xs vs → DxL K H0 H M ys zs → ρ xs ys Qd → vs.length = n ∧ zs.length = m ∧ ∃ (ws : List (Str × V)) (fs : List (Str × D)), DnF K H M fs ws ∧ Qd (.ins C fs) ∧
      ∀ p dx H1 (Q : VK), H1 p = some (.ins C dx []) → (∀ b o, H b = some o → H1 b = some o) → LamX.Tabs TabT.T H1 → (∀ H2, SmT H1 H2 → Q .non (upd H2 p (.ins C dx ws))) → sp (gV (.ref p :: vs) zs) H1 Q E) :
    SE K (κ1 + κ2) (tMakeN C n m sp gV E t tk) (fun δ Q => r δ fun xs => rk δ fun ys => ρ xs ys fun d => Q (.d d)) := ⟨fun H0 M0 H M σ δ Q Qd s q k => h.run H0 M0 H M σ δ _ _ s.l q fun xs vs H1 M1 w1 e1 n1 z => hk.run H0 M0 H1 M1 σ δ _ _ (s.xl w1 e1 (by omega)) z fun ys zs H2 M2 w2 e2 n2 z => by
  obtain ⟨l1, l2, ws, fs, nf, qd, go⟩ := hm H0 H2 M2 xs vs ys zs _ w2 (n1.xe w1 e2) n2 z
  refine ⟨l1, l2, ?_⟩
  intro x dx nx ndx ne
  have st : Same H2 (upd (upd H2 dx (.own x)) x (.ins C dx [])) := fun b o hb => by rw [upd_ne (ne_of_none hb nx), upd_ne (ne_of_none hb ndx)]; exact hb
  refine go x dx _ _ upd_same st (w2.tb.ext st) fun H3 s3 => ⟨rfl, ?_⟩
  have at_ : H3 x = some (.ins C dx []) := s3.k0 _ _ upd_same (fun _ z => nomatch z)
  have s4 : SmT H2 (upd H3 x (.ins C dx ws)) := ⟨fun b o hb n => by rw [upd_ne (ne_of_none hb nx)]; exact s3.k0 _ _ (st b o hb) n, fun b ps hb => by rw [upd_ne (ne_of_none hb nx)]; exact s3.kt _ _ (st b _ hb), fun t => tabs_wr at_ (fun _ z => nomatch z) (fun _ z => nomatch z) (s3.tb (t.ext st))⟩
  obtain ⟨w5, x5⟩ := smt_xe w2 s4
  exact k (.d (.ins C fs)) _ _ M2 w5 ((e1.trans e2).trans x5) ⟨x, dx, ws, rfl, upd_same, DnF.xt w2 x5.toXT _ _ nf⟩ qd⟩
end
def kw4 {α : Type} : List α → List α → List α
  | [s], [b, g, w, n] => [s, n, w, g, b]
  | _, _ => []
theorem kbNI {K : PySem.W.Frag} {f : Addr} {fd : FuncData} (F : FunN K f fd) : KBn K fd ["self", "name", "ware", "grains", "born"] 1 ["born", "grains", "ware", "name"] kw4 kw4 := by
  obtain ⟨its, b⟩ := F.kbindsD (ps := ["self", "name", "ware", "grains", "born"]) 1 ["born", "grains", "ware", "name"] (fun us its ws => kw4 us ws) (by simp) (fun r1 r2 r3 => by
    cases r1 with
    | nil => exact .nil
    | cons s r1 => cases r1 with
      | cons _ _ => exact .nil
      | nil => cases r3 with
        | nil => exact .nil
        | cons b r3 => cases r3 with
          | nil => exact .nil
          | cons g r3 => cases r3 with
            | nil => exact .nil
            | cons w r3 => cases r3 with
              | nil => exact .nil
              | cons n r3 => cases r3 with
                | nil => exact .cons s (.cons n (.cons w (.cons g (.cons b .nil))))
                | cons _ _ => exact .nil)
    fun T kV doc pm an cdv ct us its ws h1 h2 h3 => match us, its, ws, h1, h2, h3 with | [_], [_], [_, _, _, _], _, _, _ => ⟨_, rfl, rfl⟩
  exact b
theorem se_mkNK {K : PySem.W.Frag} {κ1 κ2 : Nat} {N : Addr} {E : XK} {t tk : TA} {r rk : TDA} (h : SA K κ1 t r) (hk : SA K κ2 tk rk) : SE K (κ1 + κ2) (tMakeN N 0 4 (spNInit N) kw4 E t tk) (fun δ Q => r δ fun xs => rk δ fun ys => ∃ n : N4, xs = [] ∧ ys = [.d (.int n.2.2.2), .d (.int n.2.2.1), .d (.str n.2.1), .d (.str n.1)] ∧ NOk n ∧ Q (.d (nD N n))) :=
  se_mkKw (ρ := fun xs ys Q => ∃ n : N4, xs = [] ∧ ys = [.d (.int n.2.2.2), .d (.int n.2.2.1), .d (.str n.2.1), .d (.str n.1)] ∧ NOk n ∧ Q (nD N n)) h hk fun H0 H M xs vs ys zs Qd w n1 n2 q => by
  obtain ⟨n, rfl, rfl, ok, q⟩ := q
  have n1 : vs = [] := n1
  subst n1
  obtain ⟨v1, _, rfl, m1, v2, _, rfl, m2, v3, _, rfl, m3, v4, _, rfl, m4, rfl⟩ := n2
  have m1 := DxInt m1
  have m2 := DxInt m2
  have m3 := DxStr m3
  have m4 := DxStr m4
  subst m1 m2 m3 m4
  refine ⟨rfl, rfl, nf n.1 n.2.1 n.2.2.1 n.2.2.2, [(("name" : Str), .str n.1), (("ware" : Str), .str n.2.1), (("grains" : Str), .int n.2.2.1), (("born" : Str), .int n.2.2.2)], ?_, q, fun p dx H1 Q hp sm tb k => ⟨p, dx, n.1, n.2.1, n.2.2.1, n.2.2.2, rfl, hp, ok, fun H2 s2 => ?_⟩⟩
  · rw [nf_eq]
    exact ⟨_, _, rfl, rfl, _, _, rfl, rfl, _, _, rfl, rfl, _, _, rfl, rfl, rfl⟩
  · exact k H2 (SmT.of s2)
/-- what isinstance and subclasses say of Notes, Weights, Casks and the built-in types -/
structure KitA (K : PySem.W.Frag) (N W Ck : Addr) : Prop where
  cN : Cls K N
  iN : WIns K N
  cW : Cls K W
  iW : WIns K W
  cC : Cls K Ck
  iC : WIns K Ck
  kT : ∀ T, T ∈ ["NoneType", "bool", "int", "str", "tuple", "list", "dict"] → PySem.W.kitOne K (.type T) (.ref N) = some false ∧ PySem.W.notFirst K N (.type T) = true ∧ PySem.W.subIn K (.ref N) (.type T) = some false
  kW : PySem.W.kitOne K (.ref W) (.ref N) = some false
  kC : PySem.W.kitOne K (.ref Ck) (.ref N) = some false
  kNW : PySem.W.kitOne K (.ref N) (.ref W) = some false
  kNC : PySem.W.kitOne K (.ref N) (.ref Ck) = some false
  fW : PySem.W.notFirst K N (.ref W) = true
  fC : PySem.W.notFirst K N (.ref Ck) = true
  fNW : PySem.W.notFirst K W (.ref N) = true
  fNC : PySem.W.notFirst K Ck (.ref N) = true
theorem KitA.ne {K : PySem.W.Frag} {N W : Addr} (h : PySem.W.kitOne K (.ref N) (.ref W) = some false) : W ≠ N := fun e => by
  subst e
  rw [kit_self] at h
  cases h
theorem ask_note {S : Addr → Prop} {K : PySem.W.Frag} {N : Addr} (cN : Cls K N) (iN : WIns K N) (n m : N4) : AskO K (owA K N S) (nD N n) (nD N m) (decide (n = m)) :=
  .inl ⟨N, _, .ref N, rfl, ⟨rfl, cN, iN⟩, by unfold PySem.W.notFirst; simp, .inl ⟨rfl, n, rfl, .inl ⟨m, rfl, rfl⟩⟩⟩
theorem ask_back {S : Addr → Prop} {K : PySem.W.Frag} {N W Ck : Addr} (k : KitA K N W Ck) (n : N4) {d : D} {T : String} (hT : T ∈ ["NoneType", "bool", "int", "str", "tuple", "list", "dict"]) (h : d.back T) : AskO K (owA K N S) (nD N n) d false ∧ AskO K (owA K N S) d (nD N n) false := by
  have ty : d.tyOk K (.type T) := by
    cases d <;> first | exact h.elim | (have h : T = _ := h; subst h; exact rfl)
  obtain ⟨k1, k2, k3⟩ := k.kT T hT
  have o : owA K N S N [(("name" : Str), D.str n.1), (("ware" : Str), .str n.2.1), (("grains" : Str), .int n.2.2.1), (("born" : Str), .int n.2.2.2)] d false := .inl ⟨rfl, n, rfl, .inr ⟨_, ty, k1, rfl⟩⟩
  exact ⟨.inl ⟨N, _, _, rfl, ty, k2, o⟩, .inr ⟨N, _, T, rfl, h, k3, o⟩⟩
theorem ask_ins {S : Addr → Prop} {K : PySem.W.Frag} {N W : Addr} (hS : S W) (cN : Cls K N) (iN : WIns K N) (cW : Cls K W) (iW : WIns K W) (kW : PySem.W.kitOne K (.ref W) (.ref N) = some false) (kNW : PySem.W.kitOne K (.ref N) (.ref W) = some false) (fW : PySem.W.notFirst K N (.ref W) = true) (fNW : PySem.W.notFirst K W (.ref N) = true) (n : N4) (fs : List (Str × D)) : AskO K (owA K N S) (nD N n) (.ins W fs) false ∧ AskO K (owA K N S) (.ins W fs) (nD N n) false :=
  ⟨.inl ⟨N, _, .ref W, rfl, ⟨rfl, cW, iW⟩, fW, .inl ⟨rfl, n, rfl, .inr ⟨.ref W, ⟨rfl, cW, iW⟩, kW, rfl⟩⟩⟩, .inl ⟨W, fs, .ref N, rfl, ⟨rfl, cN, iN⟩, fNW, .inr ⟨KitA.ne kNW, hS, ⟨n, rfl⟩, kNW, rfl⟩⟩⟩
end K
/-! enumerate of a tuple: made, walked, over data -/
namespace EnT
open PySem PySem.Spec PyProof.Rows L2 RZ
open Sem (wp)
open AutoSeq1 (wpAny_loadPart')
theorem made_new (t : Addr) (items : Array Value) (n : Nat) (dt : Option Addr) (sl : Array (Option Value)) :
    Meets (Builtin.«enumerate.__new__» ⟨[.type "enumerate", .ref t], []⟩) (fun _ R s => s.heap.get? t = some { cls := .type "tuple", dict := dt, data := .seq items n, slots := sl } ∧
      R (.ok (.ret (.ref (s.heap.push { cls := .type "tuple_iterator", data := .fields #[.ref t, .int 0 0] }).objs.size)))
        { s with heap := (s.heap.push { cls := .type "tuple_iterator", data := .fields #[.ref t, .int 0 0] }).push { cls := .type "enumerate", data := .fields #[.none, .bool false, .ref s.heap.objs.size, rawInt 0, .none, .none] } }) :=
  .of_wp fun prog w A R z h => by
    obtain ⟨hp, gs, dr, tk, os⟩ := z
    obtain ⟨ht, h⟩ := h
    have hsub := sub_enumerate
    have hT : Heap.IsTuple (Shared.heap ⟨hp, gs, dr, tk, os⟩) t items := ⟨_, ht, rfl, n, rfl⟩
    wp_walk using wpAny_loadPart' ht
    refine wpAny_stack_any fun _ => wpAny_pure ?_
    split
    · rename_i c _ _ _ _ _
      cases (c == Value.type "enumerate") <;>
        (wp_walk using wpAny_loadPart' ht, wpAny_pyIter_tuple hT
         exact ⟨_, rfl, h⟩)
    · wp_walk using wpAny_loadPart' ht, wpAny_pyIter_tuple hT
      exact ⟨_, rfl, h⟩
section
variable {prog : Program} {w : World} {A : Around} {E : Value → Shared → Prop} {s : Shared}
theorem called {t : Addr} {items : Array Value} {Q : Value → Shared → Prop} (hT : s.heap.IsTuple t items)
    (k : ∀ h', IsEnum h' (s.heap.objs.size + 1) s.heap.objs.size 0 .none → h'.IsTupleIter s.heap.objs.size t 0 → h'.objs.size = s.heap.objs.size + 2 →
      (∀ b o, s.heap.get? b = some o → h'.get? b = some o) → Q (.ref (s.heap.objs.size + 1)) { s with heap := h' }) : wpAny (model prog w) A (call (.type "enumerate") [.ref t]) Q E s := by
  obtain ⟨⟨kls, dct, dt, sl⟩, ht, hc, n, hd⟩ := hT
  have hc : kls = .type "tuple" := hc
  have hd : dt = .seq items n := hd
  subst hc hd
  refine callType_new F.called_enumerate (by decide) (F.typeCall_enumerate_1 _) (F.newCall_enumerate_1 _) (fun obj => F.args_object_init_2 obj _) F.entry_enumerate_new (made_new t items n dct sl) ⟨ht, ?_⟩
  have z1 : (s.heap.push { cls := .type "tuple_iterator", data := .fields #[.ref t, .int 0 0] }).objs.size = s.heap.objs.size + 1 := Heap.size_push ..
  show _ ∧ _
  rw [z1]
  have en : IsEnum ((s.heap.push { cls := .type "tuple_iterator", data := .fields #[.ref t, .int 0 0] }).push
      { cls := .type "enumerate", data := .fields #[.none, .bool false, .ref s.heap.objs.size, rawInt 0, .none, .none] }) (s.heap.objs.size + 1) s.heap.objs.size 0 .none := by
    have q := Heap.get?_push_size (s.heap.push { cls := .type "tuple_iterator", data := .fields #[.ref t, .int 0 0] }) (o := { cls := .type "enumerate", data := .fields #[.none, .bool false, .ref s.heap.objs.size, rawInt 0, .none, .none] }) rfl
    rw [z1] at q
    exact q
  exact ⟨⟨_, en, rfl⟩, k _ en ⟨_, Heap.get?_push_of_some _ (Heap.get?_push_size _ rfl), rfl, rfl⟩ (by rw [Heap.size_push, z1]) fun b o x => Heap.get?_push_of_some _ (Heap.get?_push_of_some _ x)⟩
end
/-- a tuple's iterator draws its items -/
theorem draws {prog : Program} {w : World} {A : Around} {it t : Addr} {items : Array Value} (hh : A.handled = none) (hne : it ≠ t) :
    Draws prog w A it [it, t] items.size (fun i x => items[i]? = some x) (fun i h => h.IsTupleIter it t i ∧ h.IsTuple t items) where
  live := fun i h st => let ⟨⟨o, ho, _⟩, _⟩ := st; ⟨o, ho⟩
  frame := fun i h h' st k => ⟨st.1.at fun o q => k it (by simp) o q, let ⟨o, ho, r⟩ := st.2; ⟨o, k t (by simp) o ho, r⟩⟩
  item := fun i s Q E hi st k => nextOf_tuple_item st.1 st.2 (x := items[i]) (by simp [hi]) fun h' it' sb => k _ h' s.toks (by simp [hi]) ⟨it', let ⟨o, ho, r⟩ := st.2; ⟨o, (sb.2 t (Ne.symm hne)).trans ho, r⟩⟩ sb
  done := fun s Q E st k => nextOf_tuple_end hh st.1 st.2 (by simp) k
/-- the tuple at a as it stands at each turn, each item beside its place, a new pair -/
def IteT (K : PySem.W.Frag) (a : Addr) : It :=
  ⟨fun i H => ∃ (xs : List V) (x : V), SqT K H a xs ∧ xs[i]? = some x, fun i H v H' => ∃ p x, v = .ref p ∧ H p = none ∧ H' = upd H p (.tup [.int (i : Nat), x]) ∧ ∀ xs, SqT K H a xs → xs[i]? = some x, fun i H => ∃ xs : List V, SqT K H a xs ∧ xs.length ≤ i⟩
theorem turn_enumT {P : Program} {w : World} {K : PySem.W.Frag} {elts : List Expr} {kk : Nat} {tpos : Pos} (a e it : Addr) :
    Turn P w K (.Tuple elts kk tpos) (IteT K a) [e, it] e (fun i h => (∃ old, IsEnum h e it ((i : Nat) : Int) old) ∧ h.IsTupleIter it a i ∧ e ≠ it ∧ it ≠ a ∧ e ≠ a) where
  mem := by simp
  obj := fun i h st b hb => by
    obtain ⟨⟨old, he⟩, ⟨o, ho, hc, hd⟩, _⟩ := st
    have e' : b = e ∨ b = it := by simpa using hb
    rcases e' with q | q
    · rw [q]
      exact ⟨_, he, fun v y => nomatch y⟩
    · rw [q]
      exact ⟨o, ho, fun v y => by rw [hd] at y; cases y⟩
  keep := fun i h h' st k => let ⟨⟨old, he⟩, hi, n1, n2, n3⟩ := st; ⟨⟨old, k e (by simp) _ he⟩, hi.at fun o q => k it (by simp) o q, n1, n2, n3⟩
  item := by
    intro X hP hw hK hc i pins s σ H E I hf st hg
    subst hP hw hK
    obtain ⟨⟨old, he⟩, hit, n1, n2, n3⟩ := st
    obtain ⟨xs, x, hq, hx⟩ := hg
    obtain ⟨its, rv, p, _⟩ := I.tuple hq
    obtain ⟨u, hu, ru⟩ := rv.get hx
    have lt1 : e < s.heap.objs.size := Heap.lt_size he
    have lt2 : it < s.heap.objs.size := by
      obtain ⟨_, q, _⟩ := hit
      exact Heap.lt_size q
    have hi : i < its.toArray.size := by
      have := (List.getElem?_eq_some_iff.mp hu).1
      simpa using this
    refine wpAny_pyNext_enum_itemD (draws (A := X.A.in1) (I.ok.hd hc) n2) he ⟨hit, p⟩ hi n1 (by simp [n1, n3]) fun y h' tk hP ho st' hT hsz hk => ?_
    have ey : y = u := by
      have h1 : its[i]? = some y := by simpa using hP
      rw [hu] at h1
      exact (Option.some.inj h1).symm
    subst ey
    refine ⟨_, rfl, wpAny_letOwnedTupleGo_enum (s := { s with heap := h', toks := tk + 1 }) ho fun g' he' sb => ?_⟩
    have there : g'.get? s.heap.objs.size = some { cls := .type "tuple", data := .seq #[.int i tk, y] } := (sb.2 _ (Nat.ne_of_gt lt1)).trans hT
    have new : ObjOk X.prog X.w (upd H s.heap.objs.size (.tup [.int (i : Nat), x])) g' s.heap.objs.size (.tup [.int (i : Nat), x]) :=
      ⟨by show 2 ≤ sizeLine; decide, [.int i tk, y], .cons ⟨_, rfl⟩ (.cons ru .nil), ⟨_, there, rfl, _, rfl⟩⟩
    have I1 : Inv X pins σ (upd H s.heap.objs.size (.tup [.int (i : Nat), x])) { s with heap := g', toks := tk + 1 } :=
      I.turnedNew (ch := [e, it]) (fun b ob hb q => (sb.2 b (fun z => hb (by simp [z]))).trans (hk b ob (fun z => hb (by simp [z])) (fun z => hb (by simp [z])) q)) hf (Nat.le_refl _) new
    refine ⟨.ref s.heap.objs.size, _, I1, rfl, ⟨_, x, rfl, I.hok.fresh (Nat.le_refl _), rfl, fun ys hy => by rw [I.tuple_inj hy hq]; exact hx⟩, ⟨⟨y, ?_⟩, st'.1.at fun o q => (sb.2 it (Ne.symm n1)).trans q, n1, n2, n3⟩, fun b hb => ?_⟩
    · have e1 : ((i + 1 : Nat) : Int) = (i : Int) + 1 := by omega
      rw [e1]
      exact he'
    · have hb' : b < s.heap.objs.size := by
        have e' : b = e ∨ b = it := by simpa using hb
        rcases e' with q | q
        · rw [q]; exact lt1
        · rw [q]; exact lt2
      rw [upd_ne (Nat.ne_of_lt hb')]
      exact (hf b hb).1
  done := by
    intro X hP hw hK hc i pins s σ H E I hf st hg
    subst hP hw hK
    obtain ⟨⟨old, he⟩, hit, n1, n2, n3⟩ := st
    obtain ⟨xs, hq, hx⟩ := hg
    obtain ⟨its, rv, p, _⟩ := I.tuple hq
    obtain ⟨f0, f1, f2, f3, f4, f5⟩ := hf it (by simp)
    have hl := rv.length
    have fin : ∀ h', Heap.ExtBut it s.heap h' → ((none : Option Value) = none ∧ Inv X pins σ H { s with heap := h' }) := fun h' eb => ⟨rfl, I.turned (t' := s.toks) (fun b o hb q => eb b o hb q) f0 f1 f3 f4 f5⟩
    have ty : s.TypeIs (.ref e) "enumerate" := ⟨_, he, rfl⟩
    refine wpAny_bind (wpAny_attempt (wpAny_callSpecial?_slot (name := Str.ofString "__next__") ty F.slot_enumerate_next (wpAny_call_entry F.slot_enumerate_next ty F.entry_enumerate_next ?_ (F.args_enumerate_next_1 _))))
    show wpAny (model X.prog X.w) X.A.in1
      (field (.ref e) 2 >>= _) _ _ s
    refine wpAny_bind (wpAny_field he rfl (x := .ref it) rfl (wpAny_bind (nextOf_tuple_end (I.ok.hd hc) hit p (by simp; omega) fun h' x eb kl => ?_)))
    obtain ⟨o, ho, hk⟩ := kl
    exact wpAny_bind (wpAny_isInstance (T := "StopIteration") (b := true) ⟨o, ho, hk⟩ isSubtype_stop (wpAny_pure (fin _ eb)))
  self := fun A i s Q E st h => let ⟨⟨_, he⟩, _⟩ := st; wpAny_pyIter_enum he h
def iEnT (K : PySem.W.Frag) (ta : TA) : TI := fun σ H R => ta σ H fun vs H1 => ∃ a xs, vs = [.ref a] ∧ SqT K H1 a xs ∧ R (IteT K a) H1
theorem pi_enumT {X : Cx} {e : Expr} {ta : TA} {p pos tpos : Pos} {elts : List Expr} {kk : Nat} (hg : Gl X "enumerate") (hm : X.mg "enumerate" = none) (ha : PA X [e] ta) (hs : starEach [e] X.env = [(false, eval e X.env)] := by rfl) :
    PI X (.Tuple elts kk tpos) (.Call (.Name "enumerate" p) [e] [] pos) (iEnT X.K ta) := by
  refine ⟨fun pins s σ H R I h => Call_ (ld_blt I hg hm boot_enumerate (PyProof.Rows.callWith_type1 (thn (ha.run pos pins s σ H _ I h) fun us s1 ⟨vs, H1, I1, r1, q1⟩ => ?_) hs rfl))⟩
  obtain ⟨a, xs, rfl, hq, q⟩ := q1
  cases r1 with
  | cons r rr =>
    cases rr
    cases r
    obtain ⟨its, rv, pt, _⟩ := I1.tuple hq
    have la : a < s1.heap.objs.size := by
      obtain ⟨o, ho, _⟩ := id pt
      exact Heap.lt_size ho
    refine called pt fun h' he hit hsz hk => wpAny_pyIter_enum he ?_
    have I2 : Inv X pins σ H1 { s1 with heap := h' } := I1.kept (t' := s1.toks) hk
    refine ⟨s1.heap.objs.size + 1, [s1.heap.objs.size + 1, s1.heap.objs.size], _, _, H1, rfl, I2, turn_enumT a (s1.heap.objs.size + 1) s1.heap.objs.size, ⟨⟨.none, he⟩, hit, Nat.succ_ne_self _, Nat.ne_of_gt la, Nat.ne_of_gt (Nat.lt_succ_of_lt la)⟩, fun b hb => ?_, q⟩
    have hle : s1.heap.objs.size ≤ b := by
      have e' : b = s1.heap.objs.size + 1 ∨ b = s1.heap.objs.size := by simpa using hb
      rcases e' with q | q
      · rw [q]; exact Nat.le_succ _
      · rw [q]; exact Nat.le_refl _
    exact I1.fpOk hle (I1.hok.fresh hle)
end EnT
namespace K
open PySem L2 Rp EnT
variable [TabT]
section
variable {K : PySem.W.Frag}
def ωEnT (r : TDA) : TDF := fun δ Q => r δ fun xs => ∃ ds, xs = [.d (.tup ds)] ∧ Q (enumD ds)
theorem si_enumT {t : TA} {r : TDA} (h : SA K κ1 t r) : SI K κ1 (iEnT K t) (ωEnT r) := ⟨fun H0 M0 H M σ δ R Rd s q k => h.run H0 M0 H M σ δ _ _ s q fun xs vs H1 M1 w1 e1 n z => by
  obtain ⟨ds, rfl, z⟩ := z
  obtain ⟨v, rfl, a, us, rfl, l, nl⟩ := dx1 n
  have nt : ∀ qs, (HO.tup us) ≠ .tbl qs := fun _ z => nomatch z
  refine ⟨a, us, rfl, .inl (.inl l), k _ _ H1 M1 w1 e1 ⟨fun i d H2 M2 e w2 x => ?_, fun H2 M2 w2 x => ⟨us, .inl (.inl (x.k0 _ _ l (w1.imm l fun _ z => nomatch z) nt).1), ?_⟩⟩ z⟩
  · obtain ⟨y, ey, rfl⟩ := enumD_nth e
    obtain ⟨v, ev, nv⟩ := (DnL.xt w1 x _ _ nl).nth ey
    have l1 : SqT K H2 a us := .inl (.inl (x.k0 _ _ l (w1.imm l fun _ z => nomatch z) nt).1)
    refine ⟨⟨us, v, l1, ev⟩, ?_⟩
    rintro _ H3 ⟨p, y', rfl, hp, rfl, hy⟩
    have e1 := hy us l1
    rw [ev] at e1
    cases e1
    exact ⟨M2, new_wd hp w2, new_xe hp w2, p, _, rfl, upd_same, _, _, rfl, rfl, _, _, rfl, Dn.xt w2 (new_xe hp w2).toXT _ _ nv, rfl⟩
  · rw [nl.len]
    unfold enumD
    rw [List.length_map, List.length_zip, List.length_range]
    omega⟩
end
end K
namespace K
open PySem L2 Rp
variable [TabT]
section
variable {K : PySem.W.Frag} {κ1 : Nat}
/-- {} told as data -/
theorem se_dnew : SE K 0 tDNewK (fun δ Q => Q (.d (.dic []))) := ⟨fun H0 M0 H M σ δ Q Qd r q k p hp => k (.d (.dic [])) _ _ M (new_wd hp r.wd) (new_xe hp r.wd) ⟨p, [], rfl, upd_same, rfl⟩ q⟩
/-- {k: x}, x by a name -/
theorem se_disp1 (j : Int) (i : Nat) : SE K 0 (tDisp [(tC (.int j), tVar i)]) (fun δ Q => ∃ d, δ[i]? = some (.dat d) ∧ Q (.d (.dic [(.inl j, d)]))) := ⟨fun H0 M0 H M σ δ Q Qd r q k p hp => by
  obtain ⟨d, hd, q⟩ := q
  obtain ⟨v, hv, nv⟩ := r.dat i d hd
  refine ⟨v, hv, upd_same, [(.inl j, v)], rfl, (by show 1 ≤ 15; decide), ?_⟩
  have e : upd (upd H p (.dK [])) p (.dK (mergeK [] [(Sum.inl j, v)])) = upd H p (.dK [(Sum.inl j, v)]) := by
    funext b
    unfold upd
    by_cases z : b = p
    · rw [if_pos z, if_pos z]
      rfl
    · rw [if_neg z, if_neg z, if_neg z]
  rw [e]
  exact k (.d (.dic [(.inl j, d)])) _ _ M (new_wd hp r.wd) (new_xe hp r.wd) ⟨p, _, rfl, upd_same, v, [], rfl, Dn.xt r.wd (new_xe hp r.wd).toXT _ _ nv, rfl⟩ q⟩
/-- s.upper() -/
theorem se_upper {t : TE} {τ : TDE} (h : SE K κ1 t τ) : SE K κ1 (tM0 (fun x xs H Q => ∃ a, x = .str a ∧ xs = [] ∧ a.length ≤ 5592405 ∧ Q (.str (Txt.upper a)) H) t) (fun δ Q => τ δ fun x => ∃ a, x = .d (.str a) ∧ a.length ≤ 5592405 ∧ Q (.d (.str (Txt.upper a)))) := ⟨fun H0 M0 H M σ δ Q Qd r q k => h.run H0 M0 H M σ δ _ _ r q fun x v H1 M1 w1 e1 n1 z => by
  obtain ⟨a, rfl, l, z⟩ := z
  have n1 : v = .str a := n1
  subst n1
  exact ⟨⟨a, rfl⟩, a, rfl, rfl, l, k (.d (.str _)) _ H1 M1 w1 e1 rfl z⟩⟩
end
end K
namespace K
open PySem L2 Rp
variable [TabT]
theorem se_mkNK0 {K : PySem.W.Frag} {κ2 : Nat} {N : Addr} {E : XK} {tk : TA} {rk : TDA} (hk : SA K κ2 tk rk) : SE K (0 + κ2) (tMakeK N 0 4 (spNInit N) kw4 E tNil tk) (fun δ Q => dNil δ fun xs => rk δ fun ys => ∃ n : N4, xs = [] ∧ ys = [.d (.int n.2.2.2), .d (.int n.2.2.1), .d (.str n.2.1), .d (.str n.1)] ∧ NOk n ∧ Q (.d (nD N n))) := se_mkNK sa_nil hk
abbrev fE (n : N4) : PyData := .tuple [.str n.1, .str n.2.1, .int n.2.2.1, .int n.2.2.2]
theorem fE_eqv (m n : N4) : PyData.eqv (fE m) (fE n) = decide (m = n) := by
  obtain ⟨m1, m2, m3, m4⟩ := m
  obtain ⟨n1, n2, n3, n4⟩ := n
  rw [Bool.eq_iff_iff]
  simp [PyData.eqv, PyData.eqvAll, Prod.mk.injEq]
theorem asc_all {x : Str} (hx : Asc x) : x.cps.all (· < 0x110000) = true := by
  rw [← Array.all_toList]
  exact List.all_eq_true.mpr fun c hc => decide_eq_true (Nat.lt_trans (hx c hc) (by decide))
theorem fE_shaped {n : N4} (o : NOk n) : SeqAt.shaped (fE n) = true := by
  have h1 : (fE n).canLay0 = true := by
    show (n.1.cps.all (· < 0x110000) && (n.2.1.cps.all (· < 0x110000) && (true && (true && true)))) = true
    rw [asc_all o.ax, asc_all o.ay]
    rfl
  unfold SeqAt.shaped
  rw [h1, decide_eq_true (show (fE n).depth ≤ 64 by simp [PyData.depth, PyData.depthAll])]
  rfl
def πRightA : List D → (D → Prop) → Prop := fun ds Q => ∃ n : N4, ds = [.deck, fD n] ∧ GOk 140 n ∧ Q (.bl true)
section
variable {P : Program} {w : World} {K : PySem.W.Frag} {mg : Str → Option Value} {base : Heap}
theorem scLRight : FnScope ["_law_deck_here", "_law_parts", "_law_called", "_law_goods", "_law_many", "_law_since", "_law_note", "_law_alike", "_law_other", "_law_some", "_law_things", "_law_thing"] ["_law_deck_here", "_law_parts"] (defScope sLRight) := ⟨rfl, rfl, rfl, by decide +kernel, rfl, by decide +kernel, by decide +kernel⟩
theorem od_rightA {f N W Ck fW fNI fI fCI fFi fTo fSh fOt fSt : Addr} {fd dNI dI dCI dFi dTo dSh dOt dSt : FuncData} {ds1 dsc : List Value} (F : Fun K "_law_right" "_law_right" sLRight f fd) (hst : mg "str" = none) (hrp : mg "repr" = none) (hli : mg "list" = none)
    (k : KitA K N W Ck) (TN : NTxt K mg N) (MN : Mk K N fNI) (GNI : FnOk P w K mg base CX0 3 fNI dNI ["self", "name", "ware", "grains", "born"] (spNInit N)) (bNI : Binds K dNI ["self", "name", "ware", "grains", "born"] []) (kN : KBn K dNI ["self", "name", "ware", "grains", "born"] 1 ["born", "grains", "ware", "name"] kw4 kw4)
    (T : WTxt K mg W fW) (M : Mk K W fI) (GI : FnOk P w K mg base CX0 2 fI dI ["self", "top", "bottom"] (spInit W)) (vd : Vals [V.int 1] ds1) (bI1 : Binds K dI ["self", "top", "bottom"] ds1)
    (TC : CTxt K mg Ck) (MC : Mk K Ck fCI) (GCI : FnOk P w K mg base CX0 5 fCI dCI ["self", "mark", "since", "parts"] (spCI0 Ck)) (vc : Vals [V.non] dsc) (bC2 : Binds K dCI ["self", "mark", "since", "parts"] dsc)
    (cFi : Cl K mg "_law_fields" fFi dFi ["_law_note"]) (GFi : FnOk P w K mg base CX0 1 fFi dFi ["_law_note"] (spD K 0 (πFieldsA N)))
    (cTo : Cl K mg "_law_told" fTo dTo ["_law_one", "_law_other", "_law_due"]) (GTo : FnG P w K mg base CX0 6 fTo dTo ["_law_one", "_law_other", "_law_due"] (spD K 10 (πTold K N (fun a => a = W ∨ a = Ck))))
    (cSh : Cl K mg "_law_shown" fSh dSh ["_law_note"]) (GSh : FnG P w K mg base CX0 7 fSh dSh ["_law_note"] (spD K 10 (πShown N)))
    (cOt : Cl K mg "_law_others" fOt dOt ["_law_deck_here", "_law_parts"]) (GOt : FnOk P w K mg base CX0 3 fOt dOt ["_law_deck_here", "_law_parts"] (spD K (10 ^ 24) πOthers))
    (GSt : FnOk P w K mg base CX0 2 fSt dSt ["self"] (spD K 0 (πNStr N))) (aSt : PySem.W.findIn K (.ref N) "__str__" = some (some (.ref fSt))) (iSt : PySem.W.isFn K (.ref fSt) = true) (bSt : Binds K dSt ["self"] [])
    (ow : ∀ N' qual sc f cdv A outer s H E, OwnSays (cxOf CX0 P w K mg base N' qual sc f cdv A outer s H E).nox K (goodN N) ownN) : FnG P w K mg base CX0 9 f fd ["_law_deck_here", "_law_parts"] (spD K (10 ^ 30) πRightA) := by
  refine okGD F scLRight (fun ds Q h => ?_) (fun cdv A outer s H E gd hr => ?_)
  · obtain ⟨_, rfl, _⟩ := h
    rfl
  · refine ⟨_, _, _, (pss_cons (ps_asg (pv 1) (pg_tup rfl (pgs_cons (pg_name (i := 2) scLRight.nd rfl (Or.inl rfl)) (pgs_cons (pg_name (i := 3) scLRight.nd rfl (Or.inl rfl)) (pgs_cons (pg_name (i := 4) scLRight.nd rfl (Or.inl rfl)) (pgs_cons (pg_name (i := 5) scLRight.nd rfl (Or.inl rfl)) pgs_nil))))))
    (pss_cons (ps_set (i := 6) scLRight.nd rfl (Or.inl rfl) (pe_make MN GNI (hr.mono (by decide)) (by rfl) TN.mgN bNI .nil pass0 (pa_cons (pv 2) (pa_cons (pv 3) (pa_cons (pv 4) (pa_cons (pv 5) pa_nil))))))
    (pss_cons (ps_set (i := 7) scLRight.nd rfl (Or.inl rfl) (pe_lst (pa_cons (pv 6) (pa_cons (pe_make MN GNI (hr.mono (by decide)) (by rfl) TN.mgN bNI .nil pass0 (pa_cons (pv 2) (pa_cons (pv 3) (pa_cons (pv 4) (pa_cons (pv 5) pa_nil))))) (pa_cons (pe_makeK0 MN GNI (hr.mono (by decide)) (by rfl) TN.mgN kN pass0 (pk_cons (pv 5) (pk_cons (pv 4) (pk_cons (pv 3) (pk_cons (pv 2) pk_nil))))) pa_nil)))))
    (pss_cons (ps_for PassesOwn.never rfl (pi_list (pv 7)) (pg_name (i := 8) scLRight.nd rfl (Or.inl rfl))
      (pss_one (ps_if (PW.pt (pw_or (pt_not (pt_val (pe_callG GTo gd (hr.mono (by decide)) (by rfl) cTo.g cTo.k cTo.b .nil pass0 (pa_cons (pv 6) (pa_cons (pv 8) (pa_cons pe_bl pa_nil)))))) (pw_or1 (pt_not (pt_val (pe_callG GSh gd (hr.mono (by decide)) (by rfl) cSh.g cSh.k cSh.b .nil pass0 (pa_cons (pv 8) pa_nil))))))) (pss_one (ps_ret pe_bl)) pss_nil)))
    (pss_cons (ps_for PassesOwn.never rfl (pi_list (pe_call GOt (hr.mono (by decide)) (by rfl) cOt.g cOt.k cOt.b .nil pass0 (pa_cons (pv 0) (pa_cons (pv 1) pa_nil)))) (pg_name (i := 9) scLRight.nd rfl (Or.inl rfl))
      (pss_cons (ps_set (i := 8) scLRight.nd rfl (Or.inl rfl) (pe_make MN GNI (hr.mono (by decide)) (by rfl) TN.mgN bNI .nil pass0 (pa_cons (pe_ix ix_tup (pv 9) pe_int (fun _ _ => rfl)) (pa_cons (pe_ix ix_tup (pv 9) pe_int (fun _ _ => rfl)) (pa_cons (pe_ix ix_tup (pv 9) pe_int (fun _ _ => rfl)) (pa_cons (pe_ix ix_tup (pv 9) pe_int (fun _ _ => rfl)) pa_nil))))))
    (pss_one (ps_if (PW.pt (pw_or (pt_not (pt_val (pe_callG GTo gd (hr.mono (by decide)) (by rfl) cTo.g cTo.k cTo.b .nil pass0 (pa_cons (pv 6) (pa_cons (pv 8) (pa_cons (pe_cmpR (op_eqD hr.units) (pv 9) (pv 1) (nomark _)) pa_nil)))))) (pw_or1 (pt_not (pt_val (pe_callG GSh gd (hr.mono (by decide)) (by rfl) cSh.g cSh.k cSh.b .nil pass0 (pa_cons (pv 8) pa_nil))))))) (pss_one (ps_ret pe_bl)) pss_nil))))
    (pss_cons (ps_set (i := 10) scLRight.nd rfl (Or.inl rfl) (pe_lst (pa_cons (pv 1) (pa_cons (pe_callTy call_list_of (by rfl) hli (by decide +kernel) (pa_cons (pv 1) pa_nil)) (pa_cons (pe_callTy (cr_strO GSt aSt iSt bSt (E := E0) pass0 (hr.mono (by decide))) (by rfl) hst (by decide +kernel) (pa_cons (pv 6) pa_nil)) (pa_cons (pe_callB (cr_repr (n := 4) (hr.mono (by decide)) gd) (by rfl) hrp (by decide +kernel) (pa_cons (pv 6) pa_nil)) (pa_cons pe_non (pa_cons pe_bl (pa_cons pe_int (pa_cons (pv 4) (pa_cons (pe_tup pa_nil) (pa_cons (pe_lst pa_nil) (pa_cons pe_dnewK (pa_cons (pe_tup (pa_cons (pv 6) pa_nil)) (pa_cons (pe_make M GI (hr.mono (by decide)) (by rfl) T.mgC bI1 vd pass0 (pa_cons (pv 4) pa_nil)) pa_nil)))))))))))))))
    (pss_cons (ps_set (i := 10) scLRight.nd rfl (Or.inl rfl) (pe_op op_cat (pv 10) (pe_lst (pa_cons (pe_make MC GCI (hr.mono (by decide)) (by rfl) TC.mgK bC2 vc pass0 (pa_cons pe_str (pa_cons (pv 5) pa_nil))) (pa_cons (pv 2) (pa_cons (pe_lst (pa_cons (pv 6) pa_nil)) pa_nil))))))
    (pss_cons (ps_for PassesOwn.never rfl (pi_list (pv 10)) (pg_name (i := 11) scLRight.nd rfl (Or.inl rfl))
      (pss_one (ps_if (pt_not (pt_val (pe_callG GTo gd (hr.mono (by decide)) (by rfl) cTo.g cTo.k cTo.b .nil pass0 (pa_cons (pv 6) (pa_cons (pv 11) (pa_cons pe_bl pa_nil)))))) (pss_one (ps_ret pe_bl)) pss_nil)))
    (pss_one (ps_ret (pe_and (pe_cmpR (op_eqD hr.units) (pe_call GFi (hr.mono (by decide)) (by rfl) cFi.g cFi.k cFi.b .nil pass0 (pa_cons (pv 6) pa_nil)) (pv 1) (nomark _)) (pe_one (pe_callG GSh gd (hr.mono (by decide)) (by rfl) cSh.g cSh.k cSh.b .nil pass0 (pa_cons (pv 6) pa_nil)))))))))))))), (ss_seq (ss_asg (se_var 1) (sg_tup (sgs_cons (sg_name 2) (sgs_cons (sg_name 3) (sgs_cons (sg_name 4) (sgs_cons (sg_name 5) sgs_nil))))))
    (ss_seq (ss_set 6 (se_mkN (sa_cons (se_var 2) (sa_cons (se_var 3) (sa_cons (se_var 4) (sa_cons (se_var 5) sa_nil))))))
    (ss_seq (ss_set 7 (SF.se (sf_lst (sa_cons (se_var 6) (sa_cons (se_mkN (sa_cons (se_var 2) (sa_cons (se_var 3) (sa_cons (se_var 4) (sa_cons (se_var 5) sa_nil))))) (sa_cons (se_mkNK0 (sa_cons (se_var 5) (sa_cons (se_var 4) (sa_cons (se_var 3) (sa_cons (se_var 2) sa_nil))))) sa_nil))))))
    (ss_seq (ss_for (si_list (se_var 7)) (sg_name 8)
      (ss_if (st_or (st_not (st_b (se_callN (sa_cons (se_var 6) (sa_cons (se_var 8) (sa_cons se_bl sa_nil)))))) (st_not (st_b (se_callN (sa_cons (se_var 8) sa_nil))))) (ss_ret se_bl) ss_nil))
    (ss_seq (ss_for (si_list (se_callN (sa_cons (se_var 0) (sa_cons (se_var 1) sa_nil)))) (sg_name 9)
      (ss_seq (ss_set 8 (se_mkN (sa_cons (se_op sr_ixT (se_var 9) se_int) (sa_cons (se_op sr_ixT (se_var 9) se_int) (sa_cons (se_op sr_ixT (se_var 9) se_int) (sa_cons (se_op sr_ixT (se_var 9) se_int) sa_nil))))))
    (ss_if (st_or (st_not (st_b (se_callN (sa_cons (se_var 6) (sa_cons (se_var 8) (sa_cons (se_op sr_eqD (se_var 9) (se_var 1)) sa_nil)))))) (st_not (st_b (se_callN (sa_cons (se_var 8) sa_nil))))) (ss_ret se_bl) ss_nil)))
    (ss_seq (ss_set 10 (SF.se (sf_lst (sa_cons (se_var 1) (sa_cons (SF.se (sf_list (sa_cons (se_var 1) sa_nil))) (sa_cons (se_strO (sa_cons (se_var 6) sa_nil)) (sa_cons (se_cb (sc_repr2 (ow _ _ _ _ _ _ _ _ _ _) rfl) (sa_cons (se_var 6) sa_nil)) (sa_cons se_non (sa_cons se_bl (sa_cons se_int (sa_cons (se_var 4) (sa_cons (se_tup sa_nil) (sa_cons (SF.se (sf_lst sa_nil)) (sa_cons se_dnew (sa_cons (se_tup (sa_cons (se_var 6) sa_nil)) (sa_cons (se_mkW1 (sa_cons (se_var 4) sa_nil)) sa_nil))))))))))))))))
    (ss_seq (ss_set 10 (SF.se (sf_catL (se_var 10) (SF.se (sf_lst (sa_cons (se_mkC0 (sa_cons se_str (sa_cons (se_var 5) sa_nil))) (sa_cons (se_var 2) (sa_cons (SF.se (sf_lst (sa_cons (se_var 6) sa_nil))) sa_nil))))))))
    (ss_seq (ss_for (si_list (se_var 10)) (sg_name 11)
      (ss_if (st_not (st_b (se_callN (sa_cons (se_var 6) (sa_cons (se_var 11) (sa_cons se_bl sa_nil)))))) (ss_ret se_bl) ss_nil))
    (ss_ret (se_andV (se_op sr_eqD (se_callN (sa_cons (se_var 6) sa_nil)) (se_var 1)) (se_callN (sa_cons (se_var 6) sa_nil)))))))))))), (by decide), ?_⟩
    rintro ds Q ⟨n, rfl, gn, kQ⟩
    have ok := gn.ok
    have sz : Sz 1600 n.2.2.1 := gn.sz.mono (by decide)
    have small : ∀ k : Nat, k ≤ 1000000 → k ≤ sizeLine := fun k h => Nat.le_trans h (by decide)
    refine ⟨rfl, rfl, ?_⟩
    refine ⟨n, rfl, ok, ?_⟩
    dsimp only [List.set]
    refine ⟨n, rfl, ok, n, rfl, rfl, ok, sl3, ?_⟩
    have at_ : AskO K (owA K N (fun a => a = W ∨ a = Ck)) (nD N n) (nD N n) true := by
      have a := ask_note (S := fun a => a = W ∨ a = Ck) k.cN k.iN n n
      rw [decide_eq_true rfl] at a
      exact a
    have lR : (nR n.1 n.2.1 n.2.2.1 n.2.2.2).length ≤ sizeLine := small _ (Nat.le_trans (nR_len ok sz) (by decide))
    refine ⟨sl3, fun _ δ => ∃ v8 : DV, δ = [.dat .deck, .dat (fD n), .dat (.str n.1), .dat (.str n.2.1), .dat (.int n.2.2.1), .dat (.int n.2.2.2), .dat (nD N n), .dat (.lst [nD N n, nD N n, nD N n]), v8, .un, .un, .un], ⟨_, rfl⟩, ?_, ?_⟩
    · rintro j d δ e ⟨v8, rfl⟩
      have hm := List.mem_of_getElem? e
      simp only [List.mem_cons, List.not_mem_nil, or_false, or_self] at hm
      subst hm
      exact ⟨n, nD N n, true, rfl, rfl, at_, at_, bF rfl ⟨n, rfl, ok, sz, bF rfl ⟨_, rfl⟩⟩⟩
    rintro δ ⟨v8, rfl⟩
    refine ⟨n, rfl, gn, fun ms lm okm => ⟨by rw [List.length_map]; exact small _ (by omega), fun _ δ => ∃ v8 v9 : DV, δ = [.dat .deck, .dat (fD n), .dat (.str n.1), .dat (.str n.2.1), .dat (.int n.2.2.1), .dat (.int n.2.2.2), .dat (nD N n), .dat (.lst [nD N n, nD N n, nD N n]), v8, v9, .un, .un], ⟨_, _, rfl⟩, ?_, ?_⟩⟩
    · rintro j d δ e ⟨v8, v9, rfl⟩
      obtain ⟨m, hm, rfl⟩ := List.mem_map.mp (List.mem_of_getElem? e)
      have gm := okm m hm
      have szm : Sz 1600 m.2.2.1 := gm.sz.mono (by decide)
      dsimp only [List.set]
      refine ⟨_, 0, _, rfl, rfl, atI_nat (j := 0) rfl, _, 1, _, rfl, rfl, atI_nat (j := 1) rfl, _, 2, _, rfl, rfl, atI_nat (j := 2) rfl, _, 3, _, rfl, rfl, atI_nat (j := 3) rfl, m, rfl, gm.ok, ?_⟩
      dsimp only [List.set]
      refine ⟨fE m, fE n, rfl, rfl, fE_shaped gm.ok, fE_shaped ok, ?_⟩
      have eb : (if false = true then !PyData.eqv (fE m) (fE n) else PyData.eqv (fE m) (fE n)) = decide (m = n) := by
        rw [if_neg Bool.false_ne_true]
        exact fE_eqv m n
      have ec : decide (n = m) = decide (m = n) := decide_eq_decide.mpr ⟨fun z => z.symm, fun z => z.symm⟩
      have a1 := ask_note (S := fun a => a = W ∨ a = Ck) k.cN k.iN n m
      have a2 := ask_note (S := fun a => a = W ∨ a = Ck) k.cN k.iN m n
      rw [ec] at a1
      rw [eb]
      exact ⟨n, nD N m, _, rfl, rfl, a1, a2, bF rfl ⟨m, rfl, gm.ok, szm, bF rfl ⟨_, _, rfl⟩⟩⟩
    rintro δ ⟨v8, v9, rfl⟩
    have g0 := ok.g
    refine ⟨_, _, rfl, rfl, _, rfl, n, rfl, ok, sz, _, rfl, nD N n, rfl, rfl, ⟨by decide, rfl, n, rfl, ok, sz⟩, lR, Nat.zero_le _, Nat.zero_le _, sl1, n.2.2.1, rfl, by omega, (by decide : 13 ≤ sizeLine), ?_⟩
    dsimp only [List.set]
    have ck : CkOk "c1" n.2.2.2 := ⟨by decide +kernel, fun c hc => by
      have h : ("c1" : Str).cps.toList.all (fun c => decide (c < 128)) = true := by decide +kernel
      exact of_decide_eq_true (List.all_eq_true.mp h c hc), by decide +kernel, ok.b0, ok.b1⟩
    refine ⟨"c1", n.2.2.2, rfl, ck, sl1, (by decide : 3 ≤ sizeLine), _, _, rfl, rfl, (by decide : 13 + 3 ≤ sizeLine), ?_⟩
    dsimp only [List.set]
    refine ⟨(by decide : 16 ≤ sizeLine), fun _ δ => ∃ v10 v11 : DV, δ = [.dat .deck, .dat (fD n), .dat (.str n.1), .dat (.str n.2.1), .dat (.int n.2.2.1), .dat (.int n.2.2.2), .dat (nD N n), .dat (.lst [nD N n, nD N n, nD N n]), v8, v9, v10, v11], ⟨_, _, rfl⟩, ?_, ?_⟩
    · rintro j d δ e ⟨v10, v11, rfl⟩
      have key : d.pd = true ∧ AskO K (owA K N (fun a => a = W ∨ a = Ck)) (nD N n) d false ∧ AskO K (owA K N (fun a => a = W ∨ a = Ck)) d (nD N n) false := by
        have hm := List.mem_of_getElem? e
        have bk : ∀ {d : D} (T : String), d.pd = true → T ∈ ["NoneType", "bool", "int", "str", "tuple", "list", "dict"] → d.back T → d.pd = true ∧ AskO K (owA K N (fun a => a = W ∨ a = Ck)) (nD N n) d false ∧ AskO K (owA K N (fun a => a = W ∨ a = Ck)) d (nD N n) false := fun T p h b => ⟨p, ask_back k n h b⟩
        simp only [List.cons_append, List.nil_append, List.mem_cons, List.not_mem_nil, or_false] at hm
        rcases hm with rfl | rfl | rfl | rfl | rfl | rfl | rfl | rfl | rfl | rfl | rfl | rfl | rfl | rfl | rfl | rfl
        · exact bk "tuple" rfl (by simp) rfl
        · exact bk "list" rfl (by simp) rfl
        · exact bk "str" rfl (by simp) rfl
        · exact bk "str" rfl (by simp) rfl
        · exact bk "NoneType" rfl (by simp) rfl
        · exact bk "bool" rfl (by simp) rfl
        · exact bk "int" rfl (by simp) rfl
        · exact bk "int" rfl (by simp) rfl
        · exact bk "tuple" rfl (by simp) rfl
        · exact bk "list" rfl (by simp) rfl
        · exact bk "dict" rfl (by simp) rfl
        · exact bk "tuple" rfl (by simp) rfl
        · exact ⟨rfl, ask_ins (.inl rfl) k.cN k.iN k.cW k.iW k.kW k.kNW k.fW k.fNW n _⟩
        · exact ⟨rfl, ask_ins (.inr rfl) k.cN k.iN k.cC k.iC k.kC k.kNC k.fC k.fNC n _⟩
        · exact bk "str" rfl (by simp) rfl
        · exact bk "list" rfl (by simp) rfl
      exact ⟨n, d, false, rfl, key.1, key.2.1, key.2.2, bF rfl ⟨_, _, rfl⟩⟩
    rintro δ ⟨v10, v11, rfl⟩
    refine ⟨n, rfl, fE n, fE n, rfl, rfl, fE_shaped ok, fE_shaped ok, bT (by rw [if_neg Bool.false_ne_true, fE_eqv]; exact decide_eq_true rfl) ⟨n, rfl, ok, sz, kQ⟩⟩
end
end K
namespace L2
open PySem PySem.Spec PyProof.Rows
variable {X : Cx} {a b c d : Expr} {ta tb tc td : TE} {pos : Pos}
/-! ### a op1 b op2 c op3 d -/
def tChain3 (r r' r'' : R2) (ta tb tc td : TE) : TE := fun σ H Q => ta σ H fun x H1 => tb σ H1 fun y H2 => r x y H2 fun z H3 => ∃ k, z = .bl k ∧
  (if k = true then tc σ H3 fun w' H4 => r' y w' H4 fun z2 H5 => ∃ k2, z2 = .bl k2 ∧ (if k2 = true then td σ H5 fun u H6 => r'' w' u H6 Q else Q (.bl false) H5) else Q (.bl false) H3)
theorem pe_chain3 {op op' op2 : CmpOp} {r r' r'' : R2} (ho : OpR X (compareOp op) r) (ho' : OpR X (compareOp op') r') (ho2 : OpR X (compareOp op2) r'') (ha : PE X a ta) (hb : PE X b tb) (hc : PE X c tc) (hd : PE X d td)
    (hm : lastMarks [op, op', op2] [b, c, d] = false := by with_unfolding_all rfl) : PE X (.Compare a [op, op', op2] [b, c, d] pos) (tChain3 r r' r'' ta tb tc td) := by
  refine ⟨fun pins s σ H Q I h => ?_⟩
  refine Compare_chain (thn (ha.run pins s σ H _ I h) fun v s1 ⟨x, H1, I1, r1, q1⟩ => chain_link (thn (hb.run pins s1 σ H1 _ I1 q1) fun u s2 ⟨y, H2, I2, r2, q2⟩ =>
    thn (ho pins s2 σ H2 x y v u _ I2 r1 r2 q2) fun d' s3 ⟨z, H3, I3, r3, k, e, q3⟩ => ?_)) hm
  subst e
  cases r3
  refine wpAny_truthy_bool ?_
  cases k with
  | false => exact ite_ff ⟨.bl false, H3, I3, rfl, q3⟩
  | true =>
    refine ite_tt (chain_link (thn (hc.run pins s3 σ H3 _ I3 q3) fun w' s4 ⟨z', H4, I4, r4, q4⟩ => thn (ho' pins s4 σ H4 y z' u w' _ I4 r2 r4 q4) fun d'' s5 ⟨z2, H5, I5, r5, k2, e2, q5⟩ => ?_))
    subst e2
    cases r5
    refine wpAny_truthy_bool ?_
    cases k2 with
    | false => exact ite_ff ⟨.bl false, H5, I5, rfl, q5⟩
    | true => exact ite_tt (chain_last (thn (hd.run pins s5 σ H5 _ I5 q5) fun w2 s6 ⟨z3, H6, I6, r6, q6⟩ => ho2 pins s6 σ H6 z' z3 w' w2 Q I6 r4 r6 q6))
theorem pt_chain3 {op op' op2 : CmpOp} {r r' r'' : R2} (ho : OpR X (compareOp op) r) (ho' : OpR X (compareOp op') r') (ho2 : OpR X (compareOp op2) r'') (ha : PE X a ta) (hb : PE X b tb) (hc : PE X c tc) (hd : PE X d td)
    (hm : lastMarks [op, op', op2] [b, c, d] = false := by with_unfolding_all rfl) : PT X (.Compare a [op, op', op2] [b, c, d] pos) (tTest (tChain3 r r' r'' ta tb tc td)) := by
  refine ⟨fun pins s σ H Q I h => ?_⟩
  refine isTrue_chain (thn (ha.run pins s σ H _ I h) fun v s1 ⟨x, H1, I1, r1, q1⟩ => test_link (thn (hb.run pins s1 σ H1 _ I1 q1) fun u s2 ⟨y, H2, I2, r2, q2⟩ =>
    thn (ho pins s2 σ H2 x y v u _ I2 r1 r2 q2) fun d' s3 ⟨z, H3, I3, r3, k, e, q3⟩ => ?_)) hm
  subst e
  cases r3
  refine wpAny_truthy_bool ?_
  cases k with
  | false =>
    obtain ⟨k', e', q'⟩ := q3
    cases e'
    exact ite_ff ⟨H3, I3, q'⟩
  | true =>
    refine ite_tt (test_link (thn (hc.run pins s3 σ H3 _ I3 q3) fun w' s4 ⟨z', H4, I4, r4, q4⟩ => thn (ho' pins s4 σ H4 y z' u w' _ I4 r2 r4 q4) fun d'' s5 ⟨z2, H5, I5, r5, k2, e2, q5⟩ => ?_))
    subst e2
    cases r5
    refine wpAny_truthy_bool ?_
    cases k2 with
    | false =>
      obtain ⟨k', e', q'⟩ := q5
      cases e'
      exact ite_ff ⟨H5, I5, q'⟩
    | true =>
      refine ite_tt (test_last (thn (hd.run pins s5 σ H5 _ I5 q5) fun w2 s6 ⟨z3, H6, I6, r6, q6⟩ => thn (ho2 pins s6 σ H6 z' z3 w' w2 _ I6 r4 r6 q6) fun d3 s7 ⟨z4, H7, I7, r7, k3, e3, q7⟩ => ?_))
      subst e3
      cases r7
      exact wpAny_truthy_bool ⟨H7, I7, q7⟩
end L2
namespace K
open PySem L2 Rp
variable [TabT]
section
variable {K : PySem.W.Frag} {κ1 κ2 κ3 κ4 : Nat}
def dChain3 (ρ ρ' ρ2 : DX → DX → (DX → Prop) → Prop) (a b c d : TDE) : TDE := fun δ Q => a δ fun x => b δ fun y => ρ x y fun z => match z with
  | .d (.bl k) => (k = true → c δ fun w => ρ' y w fun z2 => match z2 with
    | .d (.bl k2) => (k2 = true → d δ fun u => ρ2 w u Q) ∧ (k2 = false → Q (.d (.bl false)))
    | _ => False) ∧ (k = false → Q (.d (.bl false)))
  | _ => False
theorem se_chain3 {r r' r2 : R2} {ρ ρ' ρ2 : DX → DX → (DX → Prop) → Prop} {ta tb tc td : TE} {a b c d : TDE} (hr : SR2 K r ρ) (hr' : SR2 K r' ρ') (hr2 : SR2 K r2 ρ2) (ha : SE K κ1 ta a) (hb : SE K κ2 tb b) (hc : SE K κ3 tc c) (hd : SE K κ4 td d) : SE K (κ1 + κ2 + κ3 + κ4) (tChain3 r r' r2 ta tb tc td) (dChain3 ρ ρ' ρ2 a b c d) := ⟨fun H0 M0 H M σ δ Q Qd s h k =>
  ha.run H0 M0 H M σ δ _ _ s.l.l.l h fun x v H1 M1 w1 e1 n1 h1 => hb.run H0 M0 H1 M1 σ δ _ _ (s.l.l.xe w1 e1) h1 fun y u H2 M2 w2 e2 n2 h2 =>
    hr.run H0 H2 M2 x y v u _ _ w2 (n1.xe w1 e2) n2 h2 fun z w H3 M3 w3 e3 n3 h3 => by
      cases z with
      | b _ => exact h3.elim
      | d z =>
        cases z <;> try exact h3.elim
        rename_i q
        refine ⟨q, n3, ?_⟩
        cases q with
        | false => exact iteF (k (.d (.bl _)) _ H3 M3 w3 (((e1.trans e2).trans e3).mono (by omega)) rfl (h3.2 rfl))
        | true => exact iteT (hc.run H0 M0 H3 M3 σ δ _ _ (s.l.xe w3 ((e1.trans e2).trans e3)) (h3.1 rfl) fun p g H4 M4 w4 e4 n4 h4 =>
            hr'.run H0 H4 M4 y p u g _ _ w4 (n2.xe w2 (e3.trans e4)) n4 h4 fun z' w' H5 M5 w5 e5 n5 h5 => by
              cases z' with
              | b _ => exact h5.elim
              | d z' =>
                cases z' <;> try exact h5.elim
                rename_i q2
                refine ⟨q2, n5, ?_⟩
                cases q2 with
                | false => exact iteF (k (.d (.bl _)) _ H5 M5 w5 (((((e1.trans e2).trans e3).trans e4).trans e5).mono (by omega)) rfl (h5.2 rfl))
                | true => exact iteT (hd.run H0 M0 H5 M5 σ δ _ _ (s.xe w5 ((((e1.trans e2).trans e3).trans e4).trans e5)) (h5.1 rfl) fun p2 g2 H6 M6 w6 e6 n6 h6 =>
                    hr2.run H0 H6 M6 p p2 g g2 _ _ w6 (n4.xe w4 (e5.trans e6)) n6 h6 fun z3 w3' H7 M7 w7 e7 n7 h7 => k z3 w3' H7 M7 w7 ((((((e1.trans e2).trans e3).trans e4).trans e5).trans e6).trans e7) n7 h7))⟩
end
end K
namespace K
open PySem L2 Rp
variable [TabT]
theorem intsD {K : PySem.W.Frag} {H : Hp} {M : Mk_} : ∀ zs : List Int, DnL K H M (zs.map D.int) (zs.map V.int)
  | [] => rfl
  | z :: zs => ⟨_, _, rfl, rfl, intsD zs⟩
section
variable {K : PySem.W.Frag} {κ1 : Nat}
/-- sorted(a list of ints) -/
theorem sf_sortedI {t : TA} {r : TDA} (h : SA K κ1 t r) : SF K κ1 (tCB (rSortedI K) t) (fun δ Q => r δ fun xs => ∃ (x : DX) (ys : List Int), xs = [x] ∧ x.get = .lst (ys.map D.int) ∧ ∀ zs : List Int, zs.Perm ys → zs.Pairwise (· ≤ ·) → Q (zs.map D.int)) := ⟨fun H0 M0 H M σ δ Q Qd s q k => h.run H0 M0 H M σ δ _ _ s q fun xs vs H1 M1 w1 e1 n z => by
  obtain ⟨x, ys, rfl, e, z⟩ := z
  obtain ⟨v, rfl, n1⟩ := dx1 n
  obtain ⟨a, us, rfl, l, nl⟩ := lst_at n1 e
  rw [nl.ints] at l
  refine ⟨a, ys, rfl, .inl (.of l), fun zs p pm so hp => k _ p _ _ (M1.put p (some false)) (own_wd hp w1) (e1.trans (own_xe false hp w1)) put_same (e1.free s.wd w1 hp) upd_same ?_ (z zs pm so)⟩
  exact intsD zs⟩
def γUnl (n : Nat) (gs : List D → Den → (Den → Prop) → Prop) : DX → Den → (Den → Prop) → Prop := fun x δ Q => match x with
  | .d (.lst ds) => ds.length = n ∧ gs ds δ Q
  | _ => False
theorem sg_unl {n : Nat} {u : TGs} {gs : List D → Den → (Den → Prop) → Prop} {is : List Nat} (h : SGs K u gs is) : SG K (gUnl K n u) (γUnl n gs) is := ⟨fun ρ0 H0 M0 H M σ δ x v Q Qd r nn q k => by
  cases x with
  | b _ => exact q.elim
  | d d =>
    cases d <;> try exact q.elim
    obtain ⟨a, vs, rfl, l, _, nl⟩ := nn
    exact ⟨a, vs, rfl, .inl (.of l), by rw [nl.len]; exact q.1, h.run ρ0 H0 M0 H M σ δ _ vs Q Qd r nl q.2 k⟩⟩
end
end K
namespace K
open PySem L2 Rp
variable [TabT]
def πLaw : List D → (D → Prop) → Prop := fun ds Q => ∃ ns : List Int, ds = [.scr ns] ∧ ns.length ≤ 63 ∧ Q (.bl true)
section
variable {P : Program} {w : World} {K : PySem.W.Frag} {mg : Str → Option Value} {base : Heap}
theorem scLaw : FnScope ["_law_script", "_law_cell", "_law_deck_here", "_law_turn", "_law_great", "_law_called", "_law_goods", "_law_many"] ["_law_script"] (defScope sLaw) := ⟨rfl, rfl, rfl, by decide +kernel, rfl, by decide +kernel, by decide +kernel⟩
theorem od_law {f fDk fD_ fNa fGn fDa fRi : Addr} {fd dDk dD dNa dGn dDa dRi : FuncData} (F : Fun K "law" "law" sLaw f fd) (B : Blt mg) (hrg : mg "range" = none)
    (cDk : Cl K mg "_law_deck" fDk dDk ["_law_cell"]) (GDk : FnOk P w K mg base CX0 1 fDk dDk ["_law_cell"] (spD K 0 πDeck)) (cD : Cl K mg "_law_draw" fD_ dD ["_law_deck_here", "_law_most"]) (GD : FnOk P w K mg base CX0 1 fD_ dD ["_law_deck_here", "_law_most"] (spD K 1 πDraw))
    (cNa : Cl K mg "_law_names" fNa dNa ["_law_deck_here", "_law_many"]) (GNa : FnOk P w K mg base CX0 2 fNa dNa ["_law_deck_here", "_law_many"] (spD K 1000000000 πNames))
    (cGn : Cl K mg "_law_grains" fGn dGn ["_law_deck_here"]) (GGn : FnOk P w K mg base CX0 2 fGn dGn ["_law_deck_here"] (spD K 10 πGrains))
    (cDa : Cl K mg "_law_day" fDa dDa ["_law_deck_here"]) (GDa : FnOk P w K mg base CX0 2 fDa dDa ["_law_deck_here"] (spD K 10 πDay))
    (cRi : Cl K mg "_law_right" fRi dRi ["_law_deck_here", "_law_parts"]) (GRi : FnG P w K mg base CX0 9 fRi dRi ["_law_deck_here", "_law_parts"] (spD K (10 ^ 30) πRightA)) : FnG P w K mg base CX0 12 f fd ["_law_script"] (spD K LIM πLaw) := by
  refine okGD F scLaw (fun ds Q h => ?_) (fun cdv A outer s H E gd hr => ?_)
  · obtain ⟨ns, rfl, _⟩ := h
    rfl
  · refine ⟨_, _, _, (pss_cons (ps_for PassesOwn.never rfl (pi_list (pe_op op_cat (pe_slice sl_listC (pv 0) po_none (po_some pe_int)) (pe_lst (pa_cons pe_int pa_nil)))) (pg_name (i := 1) scLaw.nd rfl (Or.inl rfl))
      (pss_cons (ps_set (i := 2) scLaw.nd rfl (Or.inl rfl) (pe_call GDk (hr.mono (by decide)) (by rfl) cDk.g cDk.k cDk.b .nil pass0 (pa_cons (pv 1) pa_nil)))
    (pss_one (ps_for PassesOwn.never rfl (pi_range1 (by rfl) hrg (pa_cons pe_int pa_nil)) (pg_name (i := 3) scLaw.nd rfl (Or.inl rfl))
      (pss_cons (ps_set (i := 4) scLaw.nd rfl (Or.inl rfl) (pe_callTy call_int1 (by rfl) B.int (by decide +kernel) (pa_cons (pe_cmpR op_eq (pe_call GD (hr.mono (by decide)) (by rfl) cD.g cD.k cD.b .nil pass0 (pa_cons (pv 2) (pa_cons pe_int pa_nil))) pe_int (nomark _)) pa_nil)))
    (pss_cons (ps_asg (pe_call GNa (hr.mono (by decide)) (by rfl) cNa.g cNa.k cNa.b .nil pass0 (pa_cons (pv 2) (pa_cons pe_int pa_nil))) (pg_unl rfl (pgs_cons (pg_name (i := 5) scLaw.nd rfl (Or.inl rfl)) (pgs_cons (pg_name (i := 6) scLaw.nd rfl (Or.inl rfl)) pgs_nil))))
    (pss_cons (ps_set (i := 7) scLaw.nd rfl (Or.inl rfl) (pe_ix ix_list (pe_lst (pa_cons (pe_call GGn (hr.mono (by decide)) (by rfl) cGn.g cGn.k cGn.b .nil pass0 (pa_cons (pv 2) pa_nil)) (pa_cons (pe_op op_add (pe_op op_pow pe_int pe_int) (pe_call GD (hr.mono (by decide)) (by rfl) cD.g cD.k cD.b .nil pass0 (pa_cons (pv 2) (pa_cons (pe_op op_pow pe_int pe_int) pa_nil)))) pa_nil))) (pv 4) (fun _ _ => rfl)))
    (pss_one (ps_if (pt_not (pt_val (pe_callG GRi gd (hr.mono (by decide)) (by rfl) cRi.g cRi.k cRi.b .nil pass0 (pa_cons (pv 2) (pa_cons (pe_tup (pa_cons (pv 5) (pa_cons (pv 6) (pa_cons (pv 7) (pa_cons (pe_call GDa (hr.mono (by decide)) (by rfl) cDa.g cDa.k cDa.b .nil pass0 (pa_cons (pv 2) pa_nil)) pa_nil))))) pa_nil))))) (pss_one (ps_ret pe_bl)) pss_nil)))))))))
    (pss_one (ps_ret pe_bl))), (ss_seq (ss_for (si_list (SF.se (sf_catL (SF.se (sf_slC (se_var 0) so_none (so_some se_int))) (SF.se (sf_lst (sa_cons se_int sa_nil)))))) (sg_name 1)
      (ss_seq (ss_set 2 (se_callN (sa_cons (se_var 1) sa_nil)))
    (ss_for (si_rng1 (sa_cons se_int sa_nil)) (sg_name 3)
      (ss_seq (ss_set 4 (se_cb sc_int1 (sa_cons (se_op sr_eq (se_callN (sa_cons (se_var 2) (sa_cons se_int sa_nil))) se_int) sa_nil)))
    (ss_seq (ss_asg (se_callN (sa_cons (se_var 2) (sa_cons se_int sa_nil))) (sg_unl (sgs_cons (sg_name 5) (sgs_cons (sg_name 6) sgs_nil))))
    (ss_seq (ss_set 7 (se_op sr_ixL (SF.se (sf_lst (sa_cons (se_callN (sa_cons (se_var 2) sa_nil)) (sa_cons (se_op sr_add (se_op sr_pow se_int se_int) (se_callN (sa_cons (se_var 2) (sa_cons (se_op sr_pow se_int se_int) sa_nil)))) sa_nil)))) (se_var 4)))
    (ss_if (st_not (st_b (se_callN (sa_cons (se_var 2) (sa_cons (se_tup (sa_cons (se_var 5) (sa_cons (se_var 6) (sa_cons (se_var 7) (sa_cons (se_callN (sa_cons (se_var 2) sa_nil)) sa_nil))))) sa_nil))))) (ss_ret se_bl) ss_nil)))))))
    (ss_ret se_bl)), (by decide), ?_⟩
    rintro ds Q ⟨ns, rfl, ln, kQ⟩
    have ec : cutD (ns.map D.int) none (some 12) ++ [D.int 5] = (ns.take 12 ++ [5]).map D.int := by
      rw [show (12 : Int) = ((12 : Nat) : Int) from rfl, cutD_to, List.map_append, List.map_take]
      rfl
    have el : (ns.take 12 ++ [5]).length ≤ 13 := by rw [List.length_append, List.length_take]; show min 12 ns.length + 1 ≤ 13; omega
    have lc : (cutD (ns.map D.int) none (some 12)).length + [D.int 5].length ≤ sizeLine := by
      rw [← List.length_append, ec, List.length_map]
      exact Nat.le_trans el (by decide)
    refine ⟨_, rfl, _, rfl, sl1, _, _, rfl, rfl, lc, ?_⟩
    rw [ec]
    refine ⟨by rw [List.length_map]; exact Nat.le_trans el (by decide), fun _ δ => ∃ u1 u2 u3 u4 u5 u6 u7, δ = [.dat (.scr ns), u1, u2, u3, u4, u5, u6, u7], ⟨_, _, _, _, _, _, _, rfl⟩, ?_, ?_⟩
    rotate_left
    · rintro δ ⟨u1, u2, u3, u4, u5, u6, u7, rfl⟩
      exact kQ
    rintro i d δ e ⟨u1, u2, u3, u4, u5, u6, u7, rfl⟩
    obtain ⟨c, _, rfl⟩ := List.mem_map.mp (List.mem_of_getElem? e)
    refine ⟨c, rfl, ?_⟩
    dsimp only [List.set]
    refine ⟨3, rfl, by decide, by decide, by rw [rngD_len]; decide, ?_⟩
    refine ⟨fun _ δ => ∃ u3 u4 u5 u6 u7, δ = [.dat (.scr ns), .dat (.int c), .dat .deck, u3, u4, u5, u6, u7], ⟨_, _, _, _, _, rfl⟩, ?_, ?_⟩
    rotate_left
    · rintro δ ⟨u3, u4, u5, u6, u7, rfl⟩
      exact ⟨_, _, _, _, _, _, _, rfl⟩
    rintro j d δ e2 ⟨u3, u4, u5, u6, u7, rfl⟩
    obtain ⟨_, rfl⟩ := rngD_at e2
    refine ⟨8, rfl, by decide, by decide, fun r r0 r1 => ?_⟩
    dsimp only [List.set]
    refine ⟨rfl, .inr ⟨_, rfl, ?_⟩⟩
    refine ⟨2, rfl, by decide, fun xs l2 nd nm => ?_⟩
    obtain ⟨x, y, rfl⟩ : ∃ x y, xs = [x, y] := by
      rcases xs with _ | ⟨x, _ | ⟨y, _ | ⟨_, _⟩⟩⟩ <;> first | exact ⟨_, _, rfl⟩ | (simp at l2)
    have hx := nm x (List.mem_cons_self ..)
    have hy := nm y (List.mem_cons_of_mem _ (List.mem_cons_self ..))
    refine ⟨rfl, rfl, ?_⟩
    dsimp only [List.set]
    refine ⟨rfl, fun gr g1 g2 => ⟨⟨by decide, by decide, by decide⟩, ⟨by decide, by decide, by decide⟩, _, rfl, by decide, by decide, fun q q0 q1 => ⟨sl2, ?_⟩⟩⟩
    have e6 : ((10 : Int) ^ (6 : Int).toNat) = 1000000 := by decide
    rw [e6] at q1
    have fin : ∀ g : Int, 1 ≤ g → Sz 140 g → ∀ u : DV, ∀ b : Int, 0 ≤ b → b ≤ 1200 → GOk 140 (x, y, g, b) := fun g h1 h2 u b b0 b1 => ⟨ok_of hx hy h1 b0 b1, h2⟩
    generalize (if false = true then !decide (V.int r = V.int 5) else decide (V.int r = V.int 5)) = bb
    cases bb with
    | true =>
      refine ⟨_, ((1 : Nat) : Int), _, rfl, rfl, atI_nat rfl, ?_⟩
      dsimp only [List.set]
      have e39 : ((10 : Int) ^ (39 : Int).toNat) = 1000000000000000000000000000000000000000 := by decide
      refine ⟨rfl, fun b b0 b1 => ⟨sl4, (x, y, _, b), rfl, fin _ ?_ ?_ .un b b0 b1, bF rfl ⟨_, _, _, _, _, rfl⟩⟩⟩
      · rw [e39]; omega
      · rw [e39]; unfold Sz; omega
    | false =>
      refine ⟨_, ((0 : Nat) : Int), _, rfl, rfl, atI_nat rfl, ?_⟩
      dsimp only [List.set]
      exact ⟨rfl, fun b b0 b1 => ⟨sl4, (x, y, gr, b), rfl, fin _ g1 (Sz.mono (a := 20) (by unfold Sz; omega) (by decide)) .un b b0 b1, bF rfl ⟨_, _, _, _, _, rfl⟩⟩⟩
end
end K
namespace Rp
open PySem PySem.Spec PyProof.Rows L2
/-! ### the law's end where defs make lambdas: their tables of code objects stand tracked beside the script -/
/-- what is tracked at the law's entry -/
def atLaw (u : Option HO) (a : Addr) (ts : List Addr) : Hp := fun b => if b ∈ ts then some (.tbl #[]) else if b = a then u else none
theorem atLaw_t {u : Option HO} {a b : Addr} {ts : List Addr} (h : b ∈ ts) : atLaw u a ts b = some (.tbl #[]) := if_pos h
theorem atLaw_a {u : Option HO} {a : Addr} {ts : List Addr} (h : a ∉ ts) : atLaw u a ts a = u := (if_neg h).trans (if_pos rfl)
theorem atLaw_o {u : Option HO} {a b : Addr} {ts : List Addr} (h : b ∉ ts) (n : b ≠ a) : atLaw u a ts b = none := (if_neg h).trans (if_neg n)
/-- what the heap holds of a def's table -/
structure TblAt (K : PySem.W.Frag) (h : Heap) (p : Addr × Addr) : Prop where
  at_ : h.get? p.2 = some { cls := .none, data := .fields #[] }
  no : K.lookup p.2 = none
  cd : PySem.W.CodeHd h p.1 p.2
theorem law_atT {P : Program} {w : World} {K : PySem.W.Frag} {mg mb : Str → Option Value} {CX : CXT} {k : Nat} {fa a : Addr} {cs : List (Addr × Addr)} {fd : FuncData} {x : Str} {sp : Sp} {s₁ : Shared} {vs : List Value}
    (KX : K.In s₁.heap) (hns : s₁.heap.Ns mainGlobals mg) (hb : s₁.heap.Ns builtinsNs mb) (hbb : ∀ x : Str, x ≠ "__name__" → mb x = bootBuiltins x) (hlim : s₁.heap.NoLimit) (hg : s₁.gens = #[])
    (hbm : ∃ (bm : Addr) (ob : Obj), mg "__builtins__" = some (.ref bm) ∧ bm ≠ builtinsNs ∧ s₁.heap.get? bm = some ob ∧ ob.cls = .type "module" ∧ ob.dict = some builtinsNs ∧ ob.data = .plain)
    (ha : s₁.heap.get? a = some { cls := .type "list", data := .seq vs.toArray }) (ht : ∀ p ∈ cs, TblAt K s₁.heap p) (hr : Room k callerA)
    (F : ∀ base : Heap, K.In base → base.Ns mainGlobals mg → (∀ p ∈ cs, LamX.TabB base mg p.1 p.2) → FnG P w K mg base CX k fa fd [x] sp) (hbind : ∀ (s : Shared) (u : Value), BindsTo s fd ⟨[u], []⟩ [(x, u)])
    (hCX : ∀ H e s', CX [] H s₁ (fun _ _ _ => False) e s' → False) (u : Option HO) (hF : ∀ v, u = some v → ∃ o xs, v = .frz o (.lst xs)) (hK : u ≠ none → K.lookup a = none)
    (hok : HOk P w (atLaw u a (cs.map (·.2))) s₁.heap) (hsp : sp [.ref a] (atLaw u a (cs.map (·.2))) (fun v _ => v = .bl true) fun _ _ _ => False) :
    codeAny (model P w) callerA (.call (.ref fa) ⟨[.ref a], []⟩) (fun r s' => r = .ok (.ret (.bool true)) ∧ OldK s₁.heap s'.heap ∧ s'.os = s₁.os ∧ AllBare s'.gens) s₁ := by
  have inT : ∀ b, b ∈ cs.map (·.2) → ∃ p, p ∈ cs ∧ p.2 = b := fun b h => List.mem_map.mp h
  have aT : a ∉ cs.map (·.2) := fun z => by
    obtain ⟨p, hp, e⟩ := inT a z
    have q := (ht p hp).at_
    rw [e, ha] at q
    have z' : Data.seq vs.toArray _ = Data.fields #[] := congrArg Obj.data (Option.some.inj q)
    cases z'
  generalize hH : atLaw u a (cs.map (·.2)) = H at hok hsp
  have Ht : ∀ b, b ∈ cs.map (·.2) → H b = some (.tbl #[]) := fun b h => by rw [← hH]; exact atLaw_t h
  have Ha : H a = u := by rw [← hH]; exact atLaw_a aT
  have Ho : ∀ b, b ∉ cs.map (·.2) → b ≠ a → H b = none := fun b h n => by rw [← hH]; exact atLaw_o h n
  -- an object that is neither a row nor an empty table is not tracked
  have free : ∀ {b : Addr} {o : Obj}, s₁.heap.get? b = some o → (∀ ws n, o.data ≠ .seq ws n) → o.data ≠ .fields #[] → H b = none := fun {b o} e n1 n2 => by
    refine Ho b (fun z => ?_) fun z => ?_
    · obtain ⟨p, hp, rfl⟩ := inT b z
      rw [(ht p hp).at_] at e
      cases e
      exact n2 rfl
    · subst z
      rw [ha] at e
      cases e
      exact n1 _ _ rfl
  have dictless : ∀ {b : Addr} {o : Obj} {es : Array DictEntry} {ep : Nat}, s₁.heap.get? b = some o → o.data = .dict es ep → H b = none := fun {b o es ep} e d => free e (fun ws n z => by rw [d] at z; cases z) fun z => by rw [d] at z; cases z
  have names : ∀ {b : Addr} {m : Str → Option Value}, s₁.heap.Ns b m → (hidT s₁.heap H).Ns b m := fun {b m} h => by
    obtain ⟨o, es, ep, e, d, r⟩ := h
    exact ⟨o, es, ep, hidT_get e (dictless e d), d, r⟩
  have kb : K.In (hidT s₁.heap H) := fun b o e => hidT_get (KX b o e) (by
    by_cases h1 : b ∈ cs.map (·.2)
    · obtain ⟨p, hp, rfl⟩ := inT b h1
      rw [(ht p hp).no] at e
      cases e
    by_cases h2 : b = a
    · subst h2
      rw [Ha]
      cases hu : u with
      | none => rfl
      | some v =>
        rw [hK fun z => by rw [hu] at z; cases z] at e
        cases e
    · exact Ho b h1 h2)
  have M : Mod K mg (hidT s₁.heap H) := by
    obtain ⟨mc, h1, h2⟩ := hlim
    exact ⟨kb, names hns, ⟨mb, names hb, hbb⟩, ⟨mc, names h1, h2⟩⟩
  have tabs : ∀ p ∈ cs, LamX.TabB (hidT s₁.heap H) mg p.1 p.2 := fun p hp => by
    have T := ht p hp
    have dict_ne : ∀ {b : Addr} {m : Str → Option Value}, s₁.heap.Ns b m → b ≠ p.2 := fun {b m} h z => by
      obtain ⟨o, es, ep, e, d, _⟩ := h
      rw [z, T.at_] at e
      cases e
      cases d
    refine ⟨?_, ?_, dict_ne hns⟩
    · obtain ⟨o, ws, file, tf, flags, tg, inF, text, tt, e1, r1, r2, r3, r⟩ := T.cd
      refine ⟨o, ws, file, tf, flags, tg, inF, text, tt, hidT_get e1 (free e1 (fun us n z => by rw [r2] at z; cases z) fun z => ?_), r1, r2, r3, r⟩
      rw [r2] at z
      cases z
      cases r3
    · obtain ⟨bm, ob, b1, b2, b3, b4, b5, b6⟩ := hbm
      refine ⟨bm, ob, b1, b2, fun z => ?_, fun z => ?_, hidT_get b3 (free b3 (fun us n z => by rw [b6] at z; cases z) fun z => by rw [b6] at z; cases z), b4, b5, b6⟩
      · obtain ⟨o, es, ep, e, d, _⟩ := hns
        rw [z, e] at b3
        cases b3
        rw [d] at b6
        cases b6
      · rw [z, T.at_] at b3
        cases b3
        cases b6
  have e0 : Env0 P w K mg (hidT s₁.heap H) callerA [] s₁ H :=
    { frames := rfl, mod := M, bs := fun b o e => of_hidT e, bsz := Nat.le_of_eq (hidT_size _ _), funs := trivial, frf := fun b hb => (by simp [frs] at hb), hok := hok, bare := .of_eq hg }
  refine codeAny_mono ((F _ kb (names hns) tabs).go callerA [] s₁ H ⟨[.ref a], []⟩ [.ref a] [.ref a] _ _ rfl hr e0 (hbind s₁ (.ref a)) (.cons rfl .nil) hsp) fun r s' h => ?_
  match r, h with
  | .error e, h => exact (hCX H e s' h).elim
  | .ok (.ret v'), ⟨v, H', os, bare, un, hok', rv, q⟩ =>
    have ev : v = .bl true := q
    subst ev
    have eu : v' = Value.bool true := rv
    subst eu
    have stays : ∀ b o, b ∉ cs.map (·.2) → s₁.heap.get? b = some o → s'.heap.get? b = some o := fun b o nt e => by
      by_cases h2 : b = a
      · subst h2
        cases hu : u with
        | none => exact un.keep b o e (by rw [Ha, hu]) (by simp [frs]) (by simp)
        | some v =>
          obtain ⟨ob, xs, rfl⟩ := hF v hu
          obtain ⟨e1, _⟩ := hok b _ (Ha.trans hu)
          obtain ⟨e2, _⟩ := hok' b _ (un.frzs b ob _ (Ha.trans hu))
          rw [e] at e1
          cases e1
          exact e2
      · exact un.keep b o e (Ho b nt h2) (by simp [frs]) (by simp)
    have grew : ∀ p ∈ cs, ∃ more : Array Value, s'.heap.get? p.2 = some { cls := .none, data := .fields more } := fun p hp => by
      obtain ⟨more, z⟩ := un.tbls p.2 #[] (Ht _ (List.mem_map.mpr ⟨p, hp, rfl⟩))
      exact ⟨_, hok' p.2 _ z⟩
    refine ⟨rfl, ⟨fun b o e => ?_, fun b o e => ?_⟩, os, bare⟩
    · by_cases h1 : b ∈ cs.map (·.2)
      · obtain ⟨p, hp, rfl⟩ := inT b h1
        have T := ht p hp
        rw [T.at_] at e
        cases e
        obtain ⟨more, z⟩ := grew p hp
        exact .inr (.inl ⟨(T.cd.tab T.at_).isCodeTable, rfl, #[], more, rfl, by rw [Array.empty_append]; exact z⟩)
      · exact .inl (stays b o h1 e)
    · by_cases h1 : b ∈ cs.map (·.2)
      · obtain ⟨p, hp, rfl⟩ := inT b h1
        obtain ⟨more, z⟩ := grew p hp
        exact ⟨_, z⟩
      · exact ⟨o, stays b o h1 e⟩
/-- the goal that k_head leaves, of a law whose defs make lambdas -/
theorem walk_ofT {l : PySem.W.OpenLaw} {n k : Nat} {q : Program} {loose : List Str} {XP : (Str → Option Value) → Heap → Prop} {YP : World → Heap → Prop} {d : DefRec} {K : Params → PySem.W.Frag} {CX : World → CXT} {x : Str}
    (hn : l.most = some n) (hn2 : n ≤ sizeLine) (hdf : d.params.defaults = []) (hr : Room k callerA) (hY : ∀ (w : World) (h : Heap), YP w h → (K w.params).In h)
    (F : ∀ (w : World) (mg mb : Str → Option Value) (fa : Addr) (h : Heap) (lo : List Str) (mean : ExcName → Option Value), (K w.params).In h → Top q lo mean mg mb h → mg d.name = some (.ref fa) →
      ∃ (fd : FuncData) (cs : List (Addr × Addr)) (sp : Sp), (∀ p ∈ cs, TblAt (K w.params) h p) ∧ (∀ (s : Shared) (u : Value), BindsTo s fd ⟨[u], []⟩ [(x, u)]) ∧
        (∀ (H : Hp) (a : Addr) (ns : List Int), ns.length ≤ n → (∀ p ∈ cs, H p.2 = some (.tbl #[])) → SqL (K w.params) H a (ns.map V.int) → sp [.ref a] H (fun v _ => v = .bl true) fun _ _ _ => False) ∧
        ∀ base : Heap, (K w.params).In base → base.Ns mainGlobals mg → (∀ p ∈ cs, LamX.TabB base mg p.1 p.2) → FnG l.prog w (K w.params) mg base (CX w) k fa fd [x] sp)
    (hCX : ∀ (w : World) (H : Hp) (s : Shared) (e : Value) (s' : Shared), CX w [] H s (fun _ _ _ => False) e s' → False) :
    PySem.W.WalkO q loose XP YP l.row.toRowW d [] (fun f vs => PySem.call f vs) :=
  Att.attach_call hn hdf fun w s₀ s₁ mg mb fa o pm cd doc a vs ns G Y ho hd hcd hmg hobj hints hlen hg => by
    have KX := hY w _ Y
    obtain ⟨fd, cs, sp, ht, hb, hsp, hF⟩ := F w mg mb fa _ _ _ KX G.T hmg
    have rv := vals_ints hints
    have lenV := hints.length
    have hl := Nat.le_trans hlen hn2
    have aT : a ∉ cs.map (·.2) := fun z => by
      obtain ⟨p, hp, e⟩ := List.mem_map.mp z
      have q := (ht p hp).at_
      rw [e, hobj] at q
      have z' : Data.seq vs.toArray _ = Data.fields #[] := congrArg Obj.data (Option.some.inj q)
      cases z'
    have main := law_atT KX G.T.g G.T.b G.T.builtins G.T.nolimit hg G.T.bmain hobj ht hr hF hb fun H e s' => hCX w H s₁ e s'
    have ok : ∀ (u : Option HO) (b : Addr) (v : HO), atLaw u a (cs.map (·.2)) b = some v → (b ∈ cs.map (·.2) ∧ v = .tbl #[] ∧ s₁.heap.get? b = some { cls := .none, data := .fields #[] }) ∨ (b = a ∧ u = some v) := fun u b v e => by
      by_cases h1 : b ∈ cs.map (·.2)
      · rw [atLaw_t h1] at e
        cases e
        obtain ⟨p, hp, rfl⟩ := List.mem_map.mp h1
        exact .inl ⟨h1, rfl, (ht p hp).at_⟩
      · by_cases h2 : b = a
        · subst h2
          rw [atLaw_a h1] at e
          exact .inr ⟨rfl, e⟩
        · rw [atLaw_o h1 h2] at e
          cases e
    cases hk : (K w.params).lookup a with
    | some o =>
      have e := KX a o hk
      rw [hobj] at e
      cases e
      refine main none (fun v z => nomatch z) (fun z => absurd rfl z) (fun b v e => ?_) (hsp _ a ns hlen (fun p hp => atLaw_t (List.mem_map.mpr ⟨p, hp, rfl⟩)) (.inr ⟨_, vs.toArray, _, hk, rfl, rfl, rfl, by rw [List.size_toArray, lenV]; exact hl, by simpa using rv⟩))
      rcases ok none b v e with ⟨_, rfl, h3⟩ | ⟨_, z⟩
      · exact h3
      · cases z
    | none =>
      refine main (some (.frz { cls := .type "list", data := .seq vs.toArray } (.lst (ns.map V.int)))) (fun v z => by cases z; exact ⟨_, _, rfl⟩) (fun _ => hk) (fun b v e => ?_) (hsp _ a ns hlen (fun p hp => atLaw_t (List.mem_map.mpr ⟨p, hp, rfl⟩)) (.inl (.inr ⟨_, atLaw_a aT⟩)))
      rcases ok _ b v e with ⟨_, rfl, h3⟩ | ⟨rfl, z⟩
      · exact h3
      · cases z
        exact ⟨hobj, by rw [List.length_map]; exact hl, vs, _, rv, hobj⟩
end Rp
namespace K
open PySem L2 Rp
/-! ### the law's end, with tables -/
def spLawT [TabT] (K : PySem.W.Frag) : Sp := fun vs H Q _ => ∃ (a : Addr) (ns : List Int), vs = [.ref a] ∧ SqL K H a (ns.map V.int) ∧ ns.length ≤ 63 ∧ LamX.Tabs TabT.T H ∧ ∀ H', Q (.bl true) H'
theorem law_endT [TabT] {P : Program} {w : World} {K : PySem.W.Frag} {mg : Str → Option Value} {base : Heap} {k c : Nat} {f : Addr} {fd : FuncData} {ps : List Str} (hc : c ≤ LIM) (F : FnG P w K mg base CX0 k f fd ps (spD K c πLaw)) : FnG P w K mg base CX0 k f fd ps (spLawT K) := by
  have to : ∀ (vs : List V) (H : Hp) (Q : VK) (E : XK), spLawT K vs H Q E → spD K c πLaw vs H Q E := by
    rintro vs H Q E ⟨a, ns, rfl, hs, hl, tb, q⟩
    refine ⟨M0_, [.scr ns], fun d => d = .bl true, by simpa using hc, wd0 tb, ⟨_, [], rfl, ⟨a, rfl, ?_⟩, rfl⟩, ⟨ns, rfl, hl, rfl⟩, fun d v H' M' _ _ n e => ?_⟩
    · rcases hs with h | h
      · exact .inl ⟨h, rfl⟩
      · exact .inr fun _ => .inr h
    · subst e
      have n : v = .bl true := n
      rw [n]
      exact q H'
  exact ⟨fun vs H Q E h => F.len vs H Q E (to _ _ _ _ h), fun A outer s H args us vs Q E g r e b v h => F.go A outer s H args us vs Q E g r e b v (to _ _ _ _ h)⟩
theorem fun_lm {K : PySem.W.Frag} {x qual : Str} {st : Stmt} {f c : Addr} {oc : Value} {od an : Option Addr} {osl : Array (Option Value)} {kV doc pm ct : Value} (l : K.lookup f = some ⟨oc, od, .func (PySem.W.fnOf x qual (defArgs st) (defBody st) (defScope st) .none kV doc pm an (.ref c) ct), osl⟩)
    (hc : PySem.W.codeIn K (.ref c) qual = true) : FunLm K x qual st f (PySem.W.fnOf x qual (defArgs st) (defBody st) (defScope st) .none kV doc pm an (.ref c) ct) c := ⟨⟨oc, od, kV, doc, pm, an, ct, osl, rfl, l, hc⟩⟩
theorem FunLm.binds {K : PySem.W.Frag} {x qual : Str} {st : Stmt} {f c : Addr} {fd : FuncData} {ps : List Str} (F : FunLm K x qual st f fd c) (h : ∀ (kV doc pm : Value) (an : Option Addr) (ct : Value) (us : List Value), us.length = ps.length → bindArgs (PySem.W.fnOf x qual (defArgs st) (defBody st) (defScope st) .none kV doc pm an (.ref c) ct) ⟨us, []⟩ = pure (ps.zip us)) : Binds K fd ps [] := by
  obtain ⟨oc, od, kV, doc, pm, an, ct, osl, rfl, lk, hcd⟩ := F.ex
  exact .all fun us hl => h kV doc pm an ct us hl
/-- a def's table, from what the law's part of the heap holds -/
theorem tab_at {K : PySem.W.Frag} {h : Heap} {q : Program} {lo : List Str} {mean : ExcName → Option Value} {mg mb : Str → Option Value} {x : Str} {f c Pt : Addr} {oc : Value} {od od2 : Option Addr} {osl osl2 : Array (Option Value)} {oc2 : Value} {fd : FuncData} {vs : Array Value}
    (X : K.In h) (T : PyProof.Rows.Top q lo mean mg mb h) (hr : ((PyProof.Rows.recsOf q).find? (fun e => e.name == x)).isSome = true) (a : PySem.W.nsIn K mainGlobals x = some (some (.ref f))) (l : K.lookup f = some ⟨oc, od, .func fd, osl⟩) (hc : fd.code = .ref c)
    (lc : K.lookup c = some ⟨oc2, od2, .fields vs, osl2⟩) (v11 : vs[11]? = some (.ref Pt)) (nP : K.lookup Pt = none) : TblAt K h (c, Pt) := by
  obtain ⟨d, hd⟩ := Option.isSome_iff_exists.mp hr
  have ti : PySem.W.tabIn K x = some (c, Pt) := by
    unfold PySem.W.tabIn
    rw [a]
    dsimp only
    rw [l]
    dsimp only
    rw [hc]
    dsimp only
    rw [lc]
    dsimp only
    rw [v11]
  obtain ⟨h1, h2⟩ := PySem.W.tab_of T X hd ti
  exact ⟨h2, nP, h1⟩
theorem bindsC2 [TabT] {K : PySem.W.Frag} {f : Addr} {fd : FuncData} (F : FunC K f fd) : ∃ ds, Vals [V.non] ds ∧ Binds K fd ["self", "mark", "since", "parts"] ds := by
  obtain ⟨ds, v, b⟩ := F.binds1 (ps := ["self", "mark", "since", "parts"]) 3 0 (by simp) rfl fun T kV dc pm an cd ct us its hu hi => match us, its, hu, hi with | [_, _, _], [_], _, _ => ⟨_, rfl, rfl⟩
  exact ⟨ds, v, b⟩
theorem kitA_of {p : String → Prop} (h0 : p "NoneType") (h1 : p "bool") (h2 : p "int") (h3 : p "str") (h4 : p "tuple") (h5 : p "list") (h6 : p "dict") : ∀ T, T ∈ ["NoneType", "bool", "int", "str", "tuple", "list", "dict"] → p T := fun T h => by
  simp only [List.mem_cons, List.not_mem_nil, or_false] at h
  rcases h with rfl | rfl | rfl | rfl | rfl | rfl | rfl <;> assumption
theorem ow3 [TabT] {P : Program} {w : World} {K : PySem.W.Frag} {mg : Str → Option Value} {base : Heap} {N W Ck fN fW fC : Addr} {dN dW dC : FuncData} {pN pW pC : List Str}
    (GN : FnOk P w K mg base CX0 1 fN dN pN (spO (RD2 K (owA K N (fun a => a = W ∨ a = Ck)) N))) (ON : OwnE K N fN) (bN : Binds K dN pN [])
    (GW : FnOk P w K mg base CX0 1 fW dW pW (spO (RD2 K (owA K N (fun a => a = W ∨ a = Ck)) W))) (OW : OwnE K W fW) (bW : Binds K dW pW [])
    (GC : FnOk P w K mg base CX0 1 fC dC pC (spO (RD2 K (owA K N (fun a => a = W ∨ a = Ck)) Ck))) (OC : OwnE K Ck fC) (bC : Binds K dC pC []) : OwF P w K mg base 1 (owA K N (fun a => a = W ∨ a = Ck)) :=
  ⟨owA_self kit_self, fun C fs e b h => by
    rcases h with ⟨rfl, _⟩ | ⟨_, rfl | rfl, _⟩
    · exact ⟨fN, dN, pN, GN, ON, bN⟩
    · exact ⟨fW, dW, pW, GW, OW, bW⟩
    · exact ⟨fC, dC, pC, GC, OC, bC⟩⟩
end K
namespace K
open PySem L2 Rp
theorem bindsI {K : PySem.W.Frag} {f : Addr} {fd : FuncData} (F : FunI K f fd) : Binds K fd ["self", "top", "bottom"] [] := by
  obtain ⟨ds, v, b⟩ := F.binds1 (ps := ["self", "top", "bottom"]) 3 1 (by simp) rfl fun T kV dc pm an cd ct us its hu hi => match us, its, hu, hi with | [_, _, _], [_], _, _ => ⟨_, rfl, rfl⟩
  cases v
  exact b
theorem bindsI1 {K : PySem.W.Frag} {f : Addr} {fd : FuncData} (F : FunI K f fd) : ∃ ds, Vals [V.int 1] ds ∧ Binds K fd ["self", "top", "bottom"] ds := by
  obtain ⟨ds, v, b⟩ := F.binds1 (ps := ["self", "top", "bottom"]) 2 0 (by simp) rfl fun T kV dc pm an cd ct us its hu hi => match us, its, hu, hi with | [_, _], [_], _, _ => ⟨_, rfl, rfl⟩
  exact ⟨ds, v, b⟩
theorem bindsCI {K : PySem.W.Frag} {f : Addr} {fd : FuncData} (F : FunC K f fd) : Binds K fd ["self", "mark", "since", "parts"] [] := by
  obtain ⟨ds, v, b⟩ := F.binds1 (ps := ["self", "mark", "since", "parts"]) 4 1 (by simp) rfl fun T kV dc pm an cd ct us its hu hi => match us, its, hu, hi with | [_, _, _, _], [_], _, _ => ⟨_, rfl, rfl⟩
  cases v
  exact b
theorem bindsNI {K : PySem.W.Frag} {f : Addr} {fd : FuncData} (F : FunN K f fd) : Binds K fd ["self", "name", "ware", "grains", "born"] [] := by
  obtain ⟨ds, v, b⟩ := F.binds1 (ps := ["self", "name", "ware", "grains", "born"]) 5 1 (by simp) rfl fun T kV dc pm an cd ct us its hu hi => match us, its, hu, hi with | [_, _, _, _, _], [_], _, _ => ⟨_, rfl, rfl⟩
  cases v
  exact b
theorem all_mk {l : PySem.W.OpenLaw} {w : World} {K : PySem.W.Frag} {h : Heap} {q : Program} {lo : List Str} {mean : ExcName → Option Value} {mg mb : Str → Option Value} {fa C Ck Cn fMade fNumeral fShow fWhole fName fGrains fMark fDay fRising fNInit fNEq fNStr fNRepr fInit fEq fPart fParts fCInit fCEq fDeck fDraw fLNames fLDay fLGrains fLFields fLOthers fLTold fLShown fLRight fLaw : Addr} (X : K.In h) (T0 : PyProof.Rows.Top q lo mean mg mb h) (hfa : mg "law" = some (.ref fa))
    {odMade anMade : Option Addr} {slMade : Array (Option Value)} {ocMade kVMade dcMade pmMade cdMade ctMade : Value}
    {odNumeral anNumeral : Option Addr} {slNumeral : Array (Option Value)} {ocNumeral kVNumeral dcNumeral pmNumeral cdNumeral ctNumeral : Value}
    {odShow anShow : Option Addr} {slShow : Array (Option Value)} {ocShow kVShow dcShow pmShow cdShow ctShow : Value}
    {odWhole anWhole : Option Addr} {slWhole : Array (Option Value)} {ocWhole kVWhole dcWhole pmWhole cdWhole ctWhole : Value}
    {odName anName : Option Addr} {slName : Array (Option Value)} {ocName kVName dcName pmName cdName ctName : Value}
    {odGrains anGrains : Option Addr} {slGrains : Array (Option Value)} {ocGrains kVGrains dcGrains pmGrains cdGrains ctGrains : Value}
    {odMark anMark : Option Addr} {slMark : Array (Option Value)} {ocMark kVMark dcMark pmMark cdMark ctMark : Value}
    {odDay anDay : Option Addr} {slDay : Array (Option Value)} {ocDay kVDay dcDay pmDay cdDay ctDay : Value}
    {odRising anRising : Option Addr} {slRising : Array (Option Value)} {ocRising kVRising dcRising pmRising cdRising ctRising : Value}
    {odNInit anNInit : Option Addr} {slNInit : Array (Option Value)} {ocNInit kVNInit dcNInit pmNInit cdNInit ctNInit : Value}
    {ocDNInit : Value} {odDNInit : Option Addr} {nDNInit : Nat} {slDNInit : Array (Option Value)} {tkDNInit : Tok} {DNInit : Addr}
    {odNEq anNEq : Option Addr} {slNEq : Array (Option Value)} {ocNEq kVNEq dcNEq pmNEq cdNEq ctNEq : Value}
    {odNStr anNStr : Option Addr} {slNStr : Array (Option Value)} {ocNStr kVNStr dcNStr pmNStr cdNStr ctNStr : Value}
    {odNRepr anNRepr : Option Addr} {slNRepr : Array (Option Value)} {ocNRepr kVNRepr dcNRepr pmNRepr cdNRepr ctNRepr : Value}
    {odInit anInit : Option Addr} {slInit : Array (Option Value)} {ocInit kVInit dcInit pmInit cdInit ctInit : Value}
    {ocDInit : Value} {odDInit : Option Addr} {nDInit : Nat} {slDInit : Array (Option Value)} {tkDInit : Tok} {DInit : Addr}
    {odEq anEq : Option Addr} {slEq : Array (Option Value)} {ocEq kVEq dcEq pmEq cdEq ctEq : Value}
    {odPart anPart : Option Addr} {slPart : Array (Option Value)} {ocPart kVPart dcPart pmPart cdPart ctPart : Value}
    {odParts anParts : Option Addr} {slParts : Array (Option Value)} {ocParts kVParts dcParts pmParts cdParts ctParts : Value}
    {odCInit anCInit : Option Addr} {slCInit : Array (Option Value)} {ocCInit kVCInit dcCInit pmCInit cdCInit ctCInit : Value}
    {ocDCInit : Value} {odDCInit : Option Addr} {nDCInit : Nat} {slDCInit : Array (Option Value)}  {DCInit : Addr}
    {odCEq anCEq : Option Addr} {slCEq : Array (Option Value)} {ocCEq kVCEq dcCEq pmCEq cdCEq ctCEq : Value}
    {odDeck anDeck : Option Addr} {slDeck : Array (Option Value)} {ocDeck kVDeck dcDeck pmDeck cdDeck ctDeck : Value}
    {odDraw anDraw : Option Addr} {slDraw : Array (Option Value)} {ocDraw kVDraw dcDraw pmDraw cdDraw ctDraw : Value}
    {odLNames anLNames : Option Addr} {slLNames : Array (Option Value)} {ocLNames kVLNames dcLNames pmLNames cdLNames ctLNames : Value}
    {odLDay anLDay : Option Addr} {slLDay : Array (Option Value)} {ocLDay kVLDay dcLDay pmLDay cdLDay ctLDay : Value}
    {odLGrains anLGrains : Option Addr} {slLGrains : Array (Option Value)} {ocLGrains kVLGrains dcLGrains pmLGrains cdLGrains ctLGrains : Value}
    {odLFields anLFields : Option Addr} {slLFields : Array (Option Value)} {ocLFields kVLFields dcLFields pmLFields cdLFields ctLFields : Value}
    {odLOthers anLOthers : Option Addr} {slLOthers : Array (Option Value)} {ocLOthers kVLOthers dcLOthers pmLOthers cdLOthers ctLOthers : Value}
    {odLTold anLTold : Option Addr} {slLTold : Array (Option Value)} {ocLTold kVLTold dcLTold pmLTold cdLTold ctLTold : Value}
    {odLShown anLShown : Option Addr} {slLShown : Array (Option Value)} {ocLShown kVLShown dcLShown pmLShown cdLShown ctLShown : Value}
    {odLRight anLRight : Option Addr} {slLRight : Array (Option Value)} {ocLRight kVLRight dcLRight pmLRight cdLRight ctLRight : Value}
    {odLaw anLaw : Option Addr} {slLaw : Array (Option Value)} {ocLaw kVLaw dcLaw pmLaw cdLaw ctLaw : Value}
    {zBLK : Int} {tBLK : Tok}
    {zSX : Str} {tSX : Tok}
    {zLT : Str} {tLT : Tok}
    {zML : Int} {tML : Tok}
    {zMF : Int} {tMF : Tok}
    {zLD : Int} {tLD : Tok}
    {zMP : Int} {tMP : Tok}
    (aC : PySem.W.nsIn K mainGlobals "Weight" = some (some (.ref C)))
    (pgC : PySem.W.plainGet K C Str.empty = true)
    (hdC : PySem.W.hasDictIn K C = true)
    (poC : PySem.W.plainOver K C = true)
    (saC : PySem.W.findIn K (.ref C) "__setattr__" = some (some (.builtin "object.__setattr__")))
    (mkC : PySem.W.makesIn K C = true)
    (kcC : PySem.W.keepIn K (.ref C) = true)
    (nC_top : PySem.W.findIn K (.ref C) "top" = some none)
    (nC_bottom : PySem.W.findIn K (.ref C) "bottom" = some none)
    (waC : PySem.W.findIn K (.ref C) "__class__" = some (some (.builtin "object.__class__")))
    (wmC : PySem.W.mroIn K C (.type "object") = some true)
    (wneC : PySem.W.findIn K (.ref C) "__ne__" = some (some (.builtin "object.__ne__")))
    (wn : PySem.W.specialIn K (.builtin "object.__class__") "__get__" = some (some (.builtin "getset_descriptor.__get__")))
    (wt : PySem.W.takesIn K (.builtin "object.__class__") = some true)
    (aCk : PySem.W.nsIn K mainGlobals "Cask" = some (some (.ref Ck)))
    (pgCk : PySem.W.plainGet K Ck Str.empty = true)
    (hdCk : PySem.W.hasDictIn K Ck = true)
    (poCk : PySem.W.plainOver K Ck = true)
    (saCk : PySem.W.findIn K (.ref Ck) "__setattr__" = some (some (.builtin "object.__setattr__")))
    (mkCk : PySem.W.makesIn K Ck = true)
    (kcCk : PySem.W.keepIn K (.ref Ck) = true)
    (nCk_mark : PySem.W.findIn K (.ref Ck) "mark" = some none)
    (nCk_since : PySem.W.findIn K (.ref Ck) "since" = some none)
    (nCk_parts : PySem.W.findIn K (.ref Ck) "parts" = some none)
    (waCk : PySem.W.findIn K (.ref Ck) "__class__" = some (some (.builtin "object.__class__")))
    (wmCk : PySem.W.mroIn K Ck (.type "object") = some true)
    (wneCk : PySem.W.findIn K (.ref Ck) "__ne__" = some (some (.builtin "object.__ne__")))
    (aCn : PySem.W.nsIn K mainGlobals "Note" = some (some (.ref Cn)))
    (pgCn : PySem.W.plainGet K Cn Str.empty = true)
    (hdCn : PySem.W.hasDictIn K Cn = true)
    (poCn : PySem.W.plainOver K Cn = true)
    (saCn : PySem.W.findIn K (.ref Cn) "__setattr__" = some (some (.builtin "object.__setattr__")))
    (mkCn : PySem.W.makesIn K Cn = true)
    (kcCn : PySem.W.keepIn K (.ref Cn) = true)
    (nCn_name : PySem.W.findIn K (.ref Cn) "name" = some none)
    (nCn_ware : PySem.W.findIn K (.ref Cn) "ware" = some none)
    (nCn_grains : PySem.W.findIn K (.ref Cn) "grains" = some none)
    (nCn_born : PySem.W.findIn K (.ref Cn) "born" = some none)
    (waCn : PySem.W.findIn K (.ref Cn) "__class__" = some (some (.builtin "object.__class__")))
    (wmCn : PySem.W.mroIn K Cn (.type "object") = some true)
    (wneCn : PySem.W.findIn K (.ref Cn) "__ne__" = some (some (.builtin "object.__ne__")))
    (aMade : PySem.W.nsIn K mainGlobals "made_of" = some (some (.ref fMade)))
    (lMade : K.lookup fMade = some ⟨ocMade, odMade, .func (PySem.W.fnOf "made_of" "made_of" (defArgs sMade) (defBody sMade) (defScope sMade) .none kVMade dcMade pmMade anMade cdMade ctMade), slMade⟩)
    (cMade : PySem.W.codeIn K cdMade "made_of" = true)
    (kMade : PySem.W.keepIn K (.ref fMade) = true)
    (aNumeral : PySem.W.nsIn K mainGlobals "is_numeral" = some (some (.ref fNumeral)))
    (lNumeral : K.lookup fNumeral = some ⟨ocNumeral, odNumeral, .func (PySem.W.fnOf "is_numeral" "is_numeral" (defArgs sNumeral) (defBody sNumeral) (defScope sNumeral) .none kVNumeral dcNumeral pmNumeral anNumeral cdNumeral ctNumeral), slNumeral⟩)
    (cNumeral : PySem.W.codeIn K cdNumeral "is_numeral" = true)
    (kNumeral : PySem.W.keepIn K (.ref fNumeral) = true)
    (aShow : PySem.W.nsIn K mainGlobals "show_whole" = some (some (.ref fShow)))
    (lShow : K.lookup fShow = some ⟨ocShow, odShow, .func (PySem.W.fnOf "show_whole" "show_whole" (defArgs sShow) (defBody sShow) (defScope sShow) .none kVShow dcShow pmShow anShow cdShow ctShow), slShow⟩)
    (cShow : PySem.W.codeIn K cdShow "show_whole" = true)
    (kShow : PySem.W.keepIn K (.ref fShow) = true)
    (aWhole : PySem.W.nsIn K mainGlobals "is_whole" = some (some (.ref fWhole)))
    (lWhole : K.lookup fWhole = some ⟨ocWhole, odWhole, .func (PySem.W.fnOf "is_whole" "is_whole" (defArgs sWhole) (defBody sWhole) (defScope sWhole) .none kVWhole dcWhole pmWhole anWhole cdWhole ctWhole), slWhole⟩)
    (cWhole : PySem.W.codeIn K cdWhole "is_whole" = true)
    (kWhole : PySem.W.keepIn K (.ref fWhole) = true)
    (aName : PySem.W.nsIn K mainGlobals "is_name" = some (some (.ref fName)))
    (lName : K.lookup fName = some ⟨ocName, odName, .func (PySem.W.fnOf "is_name" "is_name" (defArgs sName) (defBody sName) (defScope sName) .none kVName dcName pmName anName cdName ctName), slName⟩)
    (cName : PySem.W.codeIn K cdName "is_name" = true)
    (kName : PySem.W.keepIn K (.ref fName) = true)
    (aGrains : PySem.W.nsIn K mainGlobals "is_grains" = some (some (.ref fGrains)))
    (lGrains : K.lookup fGrains = some ⟨ocGrains, odGrains, .func (PySem.W.fnOf "is_grains" "is_grains" (defArgs sGrains) (defBody sGrains) (defScope sGrains) .none kVGrains dcGrains pmGrains anGrains cdGrains ctGrains), slGrains⟩)
    (cGrains : PySem.W.codeIn K cdGrains "is_grains" = true)
    (kGrains : PySem.W.keepIn K (.ref fGrains) = true)
    (aMark : PySem.W.nsIn K mainGlobals "is_mark" = some (some (.ref fMark)))
    (lMark : K.lookup fMark = some ⟨ocMark, odMark, .func (PySem.W.fnOf "is_mark" "is_mark" (defArgs sMark) (defBody sMark) (defScope sMark) .none kVMark dcMark pmMark anMark cdMark ctMark), slMark⟩)
    (cMark : PySem.W.codeIn K cdMark "is_mark" = true)
    (kMark : PySem.W.keepIn K (.ref fMark) = true)
    (aDay : PySem.W.nsIn K mainGlobals "is_day" = some (some (.ref fDay)))
    (lDay : K.lookup fDay = some ⟨ocDay, odDay, .func (PySem.W.fnOf "is_day" "is_day" (defArgs sDay) (defBody sDay) (defScope sDay) .none kVDay dcDay pmDay anDay cdDay ctDay), slDay⟩)
    (cDay : PySem.W.codeIn K cdDay "is_day" = true)
    (kDay : PySem.W.keepIn K (.ref fDay) = true)
    (aRising : PySem.W.nsIn K mainGlobals "are_rising" = some (some (.ref fRising)))
    (lRising : K.lookup fRising = some ⟨ocRising, odRising, .func (PySem.W.fnOf "are_rising" "are_rising" (defArgs sRising) (defBody sRising) (defScope sRising) .none kVRising dcRising pmRising anRising cdRising ctRising), slRising⟩)
    (cRising : PySem.W.codeIn K cdRising "are_rising" = true)
    (kRising : PySem.W.keepIn K (.ref fRising) = true)
    (aNInit : PySem.W.findIn K (.ref Cn) "__init__" = some (some (.ref fNInit)))
    (iNInit : PySem.W.isFn K (.ref fNInit) = true)
    (lNInit : K.lookup fNInit = some ⟨ocNInit, odNInit, .func (PySem.W.fnOf "__init__" "Note.__init__" (defArgs sNInit) (defBody sNInit) (defScope sNInit) (.ref DNInit) kVNInit dcNInit pmNInit anNInit cdNInit ctNInit), slNInit⟩)
    (cNInit : PySem.W.codeIn K cdNInit "Note.__init__" = true)
    (kNInit : PySem.W.keepIn K (.ref fNInit) = true)
    (lDNInit : K.lookup DNInit = some ⟨ocDNInit, odDNInit, .seq ([Value.int 0 tkDNInit] : List Value).toArray nDNInit, slDNInit⟩)
    (aNEq : PySem.W.findIn K (.ref Cn) "__eq__" = some (some (.ref fNEq)))
    (iNEq : PySem.W.isFn K (.ref fNEq) = true)
    (lNEq : K.lookup fNEq = some ⟨ocNEq, odNEq, .func (PySem.W.fnOf "__eq__" "Note.__eq__" (defArgs sNEq) (defBody sNEq) (defScope sNEq) .none kVNEq dcNEq pmNEq anNEq cdNEq ctNEq), slNEq⟩)
    (cNEq : PySem.W.codeIn K cdNEq "Note.__eq__" = true)
    (kNEq : PySem.W.keepIn K (.ref fNEq) = true)
    (aNStr : PySem.W.findIn K (.ref Cn) "__str__" = some (some (.ref fNStr)))
    (iNStr : PySem.W.isFn K (.ref fNStr) = true)
    (lNStr : K.lookup fNStr = some ⟨ocNStr, odNStr, .func (PySem.W.fnOf "__str__" "Note.__str__" (defArgs sNStr) (defBody sNStr) (defScope sNStr) .none kVNStr dcNStr pmNStr anNStr cdNStr ctNStr), slNStr⟩)
    (cNStr : PySem.W.codeIn K cdNStr "Note.__str__" = true)
    (kNStr : PySem.W.keepIn K (.ref fNStr) = true)
    (aNRepr : PySem.W.findIn K (.ref Cn) "__repr__" = some (some (.ref fNRepr)))
    (iNRepr : PySem.W.isFn K (.ref fNRepr) = true)
    (lNRepr : K.lookup fNRepr = some ⟨ocNRepr, odNRepr, .func (PySem.W.fnOf "__repr__" "Note.__repr__" (defArgs sNRepr) (defBody sNRepr) (defScope sNRepr) .none kVNRepr dcNRepr pmNRepr anNRepr cdNRepr ctNRepr), slNRepr⟩)
    (cNRepr : PySem.W.codeIn K cdNRepr "Note.__repr__" = true)
    (kNRepr : PySem.W.keepIn K (.ref fNRepr) = true)
    (aInit : PySem.W.findIn K (.ref C) "__init__" = some (some (.ref fInit)))
    (iInit : PySem.W.isFn K (.ref fInit) = true)
    (lInit : K.lookup fInit = some ⟨ocInit, odInit, .func (PySem.W.fnOf "__init__" "Weight.__init__" (defArgs sInit) (defBody sInit) (defScope sInit) (.ref DInit) kVInit dcInit pmInit anInit cdInit ctInit), slInit⟩)
    (cInit : PySem.W.codeIn K cdInit "Weight.__init__" = true)
    (kInit : PySem.W.keepIn K (.ref fInit) = true)
    (lDInit : K.lookup DInit = some ⟨ocDInit, odDInit, .seq ([Value.int 1 tkDInit] : List Value).toArray nDInit, slDInit⟩)
    (aEq : PySem.W.findIn K (.ref C) "__eq__" = some (some (.ref fEq)))
    (iEq : PySem.W.isFn K (.ref fEq) = true)
    (lEq : K.lookup fEq = some ⟨ocEq, odEq, .func (PySem.W.fnOf "__eq__" "Weight.__eq__" (defArgs sEq) (defBody sEq) (defScope sEq) .none kVEq dcEq pmEq anEq cdEq ctEq), slEq⟩)
    (cEq : PySem.W.codeIn K cdEq "Weight.__eq__" = true)
    (kEq : PySem.W.keepIn K (.ref fEq) = true)
    (aPart : PySem.W.nsIn K mainGlobals "is_part" = some (some (.ref fPart)))
    (lPart : K.lookup fPart = some ⟨ocPart, odPart, .func (PySem.W.fnOf "is_part" "is_part" (defArgs sPart) (defBody sPart) (defScope sPart) .none kVPart dcPart pmPart anPart cdPart ctPart), slPart⟩)
    (cPart : PySem.W.codeIn K cdPart "is_part" = true)
    (kPart : PySem.W.keepIn K (.ref fPart) = true)
    (aParts : PySem.W.nsIn K mainGlobals "is_parts" = some (some (.ref fParts)))
    (lParts : K.lookup fParts = some ⟨ocParts, odParts, .func (PySem.W.fnOf "is_parts" "is_parts" (defArgs sParts) (defBody sParts) (defScope sParts) .none kVParts dcParts pmParts anParts cdParts ctParts), slParts⟩)
    (cParts : PySem.W.codeIn K cdParts "is_parts" = true)
    (kParts : PySem.W.keepIn K (.ref fParts) = true)
    (aCInit : PySem.W.findIn K (.ref Ck) "__init__" = some (some (.ref fCInit)))
    (iCInit : PySem.W.isFn K (.ref fCInit) = true)
    (lCInit : K.lookup fCInit = some ⟨ocCInit, odCInit, .func (PySem.W.fnOf "__init__" "Cask.__init__" (defArgs sCInit) (defBody sCInit) (defScope sCInit) (.ref DCInit) kVCInit dcCInit pmCInit anCInit cdCInit ctCInit), slCInit⟩)
    (cCInit : PySem.W.codeIn K cdCInit "Cask.__init__" = true)
    (kCInit : PySem.W.keepIn K (.ref fCInit) = true)
    (lDCInit : K.lookup DCInit = some ⟨ocDCInit, odDCInit, .seq ([Value.none] : List Value).toArray nDCInit, slDCInit⟩)
    (aCEq : PySem.W.findIn K (.ref Ck) "__eq__" = some (some (.ref fCEq)))
    (iCEq : PySem.W.isFn K (.ref fCEq) = true)
    (lCEq : K.lookup fCEq = some ⟨ocCEq, odCEq, .func (PySem.W.fnOf "__eq__" "Cask.__eq__" (defArgs sCEq) (defBody sCEq) (defScope sCEq) .none kVCEq dcCEq pmCEq anCEq cdCEq ctCEq), slCEq⟩)
    (cCEq : PySem.W.codeIn K cdCEq "Cask.__eq__" = true)
    (kCEq : PySem.W.keepIn K (.ref fCEq) = true)
    (aDeck : PySem.W.nsIn K mainGlobals "_law_deck" = some (some (.ref fDeck)))
    (lDeck : K.lookup fDeck = some ⟨ocDeck, odDeck, .func (PySem.W.fnOf "_law_deck" "_law_deck" (defArgs sDeck) (defBody sDeck) (defScope sDeck) .none kVDeck dcDeck pmDeck anDeck cdDeck ctDeck), slDeck⟩)
    (cDeck : PySem.W.codeIn K cdDeck "_law_deck" = true)
    (kDeck : PySem.W.keepIn K (.ref fDeck) = true)
    (aDraw : PySem.W.nsIn K mainGlobals "_law_draw" = some (some (.ref fDraw)))
    (lDraw : K.lookup fDraw = some ⟨ocDraw, odDraw, .func (PySem.W.fnOf "_law_draw" "_law_draw" (defArgs sDraw) (defBody sDraw) (defScope sDraw) .none kVDraw dcDraw pmDraw anDraw cdDraw ctDraw), slDraw⟩)
    (cDraw : PySem.W.codeIn K cdDraw "_law_draw" = true)
    (kDraw : PySem.W.keepIn K (.ref fDraw) = true)
    (aLNames : PySem.W.nsIn K mainGlobals "_law_names" = some (some (.ref fLNames)))
    (lLNames : K.lookup fLNames = some ⟨ocLNames, odLNames, .func (PySem.W.fnOf "_law_names" "_law_names" (defArgs sLNames) (defBody sLNames) (defScope sLNames) .none kVLNames dcLNames pmLNames anLNames cdLNames ctLNames), slLNames⟩)
    (cLNames : PySem.W.codeIn K cdLNames "_law_names" = true)
    (kLNames : PySem.W.keepIn K (.ref fLNames) = true)
    (aLDay : PySem.W.nsIn K mainGlobals "_law_day" = some (some (.ref fLDay)))
    (lLDay : K.lookup fLDay = some ⟨ocLDay, odLDay, .func (PySem.W.fnOf "_law_day" "_law_day" (defArgs sLDay) (defBody sLDay) (defScope sLDay) .none kVLDay dcLDay pmLDay anLDay cdLDay ctLDay), slLDay⟩)
    (cLDay : PySem.W.codeIn K cdLDay "_law_day" = true)
    (kLDay : PySem.W.keepIn K (.ref fLDay) = true)
    (aLGrains : PySem.W.nsIn K mainGlobals "_law_grains" = some (some (.ref fLGrains)))
    (lLGrains : K.lookup fLGrains = some ⟨ocLGrains, odLGrains, .func (PySem.W.fnOf "_law_grains" "_law_grains" (defArgs sLGrains) (defBody sLGrains) (defScope sLGrains) .none kVLGrains dcLGrains pmLGrains anLGrains cdLGrains ctLGrains), slLGrains⟩)
    (cLGrains : PySem.W.codeIn K cdLGrains "_law_grains" = true)
    (kLGrains : PySem.W.keepIn K (.ref fLGrains) = true)
    (aLFields : PySem.W.nsIn K mainGlobals "_law_fields" = some (some (.ref fLFields)))
    (lLFields : K.lookup fLFields = some ⟨ocLFields, odLFields, .func (PySem.W.fnOf "_law_fields" "_law_fields" (defArgs sLFields) (defBody sLFields) (defScope sLFields) .none kVLFields dcLFields pmLFields anLFields cdLFields ctLFields), slLFields⟩)
    (cLFields : PySem.W.codeIn K cdLFields "_law_fields" = true)
    (kLFields : PySem.W.keepIn K (.ref fLFields) = true)
    (aLOthers : PySem.W.nsIn K mainGlobals "_law_others" = some (some (.ref fLOthers)))
    (lLOthers : K.lookup fLOthers = some ⟨ocLOthers, odLOthers, .func (PySem.W.fnOf "_law_others" "_law_others" (defArgs sLOthers) (defBody sLOthers) (defScope sLOthers) .none kVLOthers dcLOthers pmLOthers anLOthers cdLOthers ctLOthers), slLOthers⟩)
    (cLOthers : PySem.W.codeIn K cdLOthers "_law_others" = true)
    (kLOthers : PySem.W.keepIn K (.ref fLOthers) = true)
    (aLTold : PySem.W.nsIn K mainGlobals "_law_told" = some (some (.ref fLTold)))
    (lLTold : K.lookup fLTold = some ⟨ocLTold, odLTold, .func (PySem.W.fnOf "_law_told" "_law_told" (defArgs sLTold) (defBody sLTold) (defScope sLTold) .none kVLTold dcLTold pmLTold anLTold cdLTold ctLTold), slLTold⟩)
    (cLTold : PySem.W.codeIn K cdLTold "_law_told" = true)
    (kLTold : PySem.W.keepIn K (.ref fLTold) = true)
    (aLShown : PySem.W.nsIn K mainGlobals "_law_shown" = some (some (.ref fLShown)))
    (lLShown : K.lookup fLShown = some ⟨ocLShown, odLShown, .func (PySem.W.fnOf "_law_shown" "_law_shown" (defArgs sLShown) (defBody sLShown) (defScope sLShown) .none kVLShown dcLShown pmLShown anLShown cdLShown ctLShown), slLShown⟩)
    (cLShown : PySem.W.codeIn K cdLShown "_law_shown" = true)
    (kLShown : PySem.W.keepIn K (.ref fLShown) = true)
    (aLRight : PySem.W.nsIn K mainGlobals "_law_right" = some (some (.ref fLRight)))
    (lLRight : K.lookup fLRight = some ⟨ocLRight, odLRight, .func (PySem.W.fnOf "_law_right" "_law_right" (defArgs sLRight) (defBody sLRight) (defScope sLRight) .none kVLRight dcLRight pmLRight anLRight cdLRight ctLRight), slLRight⟩)
    (cLRight : PySem.W.codeIn K cdLRight "_law_right" = true)
    (kLRight : PySem.W.keepIn K (.ref fLRight) = true)
    (aLaw : PySem.W.nsIn K mainGlobals "law" = some (some (.ref fLaw)))
    (lLaw : K.lookup fLaw = some ⟨ocLaw, odLaw, .func (PySem.W.fnOf "law" "law" (defArgs sLaw) (defBody sLaw) (defScope sLaw) .none kVLaw dcLaw pmLaw anLaw cdLaw ctLaw), slLaw⟩)
    (cLaw : PySem.W.codeIn K cdLaw "law" = true)
    (kLaw : PySem.W.keepIn K (.ref fLaw) = true)
    (gBLK : PySem.W.nsIn K mainGlobals "BLOCK" = some (some (.int zBLK tBLK)))
    (big : (2 : Int) ^ 1600 ≤ zBLK)
    (gSX : PySem.W.nsIn K mainGlobals "SIXTEENS" = some (some (.str zSX tSX)))
    (eSX : zSX = SIX)
    (gLT : PySem.W.nsIn K mainGlobals "LETTERS" = some (some (.str zLT tLT)))
    (eLT : zLT = LETS)
    (gML : PySem.W.nsIn K mainGlobals "MOST_LETTERS" = some (some (.int zML tML)))
    (eML : zML = 8)
    (gMF : PySem.W.nsIn K mainGlobals "MOST_FIGURES" = some (some (.int zMF tMF)))
    (eMF : zMF = 6)
    (gLD : PySem.W.nsIn K mainGlobals "LAST_DAY" = some (some (.int zLD tLD)))
    (eLD : zLD = 1200)
    (gMP : PySem.W.nsIn K mainGlobals "MOST_PARTS" = some (some (.int zMP tMP)))
    (eMP : zMP = 4)
    (ggcd : PySem.W.nsIn K mainGlobals "gcd" = some (some (.builtin "math.gcd")))
    (z_all : PySem.W.nsIn K mainGlobals "all" = some none)
    (z_bool : PySem.W.nsIn K mainGlobals "bool" = some none)
    (z_int : PySem.W.nsIn K mainGlobals "int" = some none)
    (z_isinstance : PySem.W.nsIn K mainGlobals "isinstance" = some none)
    (z_len : PySem.W.nsIn K mainGlobals "len" = some none)
    (z_list : PySem.W.nsIn K mainGlobals "list" = some none)
    (z_range : PySem.W.nsIn K mainGlobals "range" = some none)
    (z_repr : PySem.W.nsIn K mainGlobals "repr" = some none)
    (z_reversed : PySem.W.nsIn K mainGlobals "reversed" = some none)
    (z_str : PySem.W.nsIn K mainGlobals "str" = some none)
    (z_tuple : PySem.W.nsIn K mainGlobals "tuple" = some none)
    (z_zip : PySem.W.nsIn K mainGlobals "zip" = some none)
    (fmCn : PySem.W.findIn K (.ref Cn) "__format__" = some (some (.builtin "object.__format__")))
    (kT0 : PySem.W.kitOne K (.type "NoneType") (.ref Cn) = some false)
    (fT0 : PySem.W.notFirst K Cn (.type "NoneType") = true)
    (sT0 : PySem.W.subIn K (.ref Cn) (.type "NoneType") = some false)
    (kT1 : PySem.W.kitOne K (.type "bool") (.ref Cn) = some false)
    (fT1 : PySem.W.notFirst K Cn (.type "bool") = true)
    (sT1 : PySem.W.subIn K (.ref Cn) (.type "bool") = some false)
    (kT2 : PySem.W.kitOne K (.type "int") (.ref Cn) = some false)
    (fT2 : PySem.W.notFirst K Cn (.type "int") = true)
    (sT2 : PySem.W.subIn K (.ref Cn) (.type "int") = some false)
    (kT3 : PySem.W.kitOne K (.type "str") (.ref Cn) = some false)
    (fT3 : PySem.W.notFirst K Cn (.type "str") = true)
    (sT3 : PySem.W.subIn K (.ref Cn) (.type "str") = some false)
    (kT4 : PySem.W.kitOne K (.type "tuple") (.ref Cn) = some false)
    (fT4 : PySem.W.notFirst K Cn (.type "tuple") = true)
    (sT4 : PySem.W.subIn K (.ref Cn) (.type "tuple") = some false)
    (kT5 : PySem.W.kitOne K (.type "list") (.ref Cn) = some false)
    (fT5 : PySem.W.notFirst K Cn (.type "list") = true)
    (sT5 : PySem.W.subIn K (.ref Cn) (.type "list") = some false)
    (kT6 : PySem.W.kitOne K (.type "dict") (.ref Cn) = some false)
    (fT6 : PySem.W.notFirst K Cn (.type "dict") = true)
    (sT6 : PySem.W.subIn K (.ref Cn) (.type "dict") = some false)
    (kW_ : PySem.W.kitOne K (.ref C) (.ref Cn) = some false)
    (kC_ : PySem.W.kitOne K (.ref Ck) (.ref Cn) = some false)
    (kNW_ : PySem.W.kitOne K (.ref Cn) (.ref C) = some false)
    (kNC_ : PySem.W.kitOne K (.ref Cn) (.ref Ck) = some false)
    (fW_ : PySem.W.notFirst K Cn (.ref C) = true)
    (fC_ : PySem.W.notFirst K Cn (.ref Ck) = true)
    (fNW_ : PySem.W.notFirst K C (.ref Cn) = true)
    (fNC_ : PySem.W.notFirst K Ck (.ref Cn) = true) :
    ∃ (fd : FuncData) (cs : List (Addr × Addr)) (sp : Sp), (∀ p ∈ cs, TblAt K h p) ∧ (∀ (s : Shared) (v : Value), BindsTo s fd ⟨[v], []⟩ [("_law_script", v)]) ∧
      (∀ (H : Hp) (a : Addr) (ns : List Int), ns.length ≤ 63 → (∀ p ∈ cs, H p.2 = some (.tbl #[])) → SqL K H a (ns.map V.int) → sp [.ref a] H (fun v _ => v = .bl true) fun _ _ _ => False) ∧
      ∀ base : Heap, K.In base → base.Ns mainGlobals mg → (∀ p ∈ cs, LamX.TabB base mg p.1 p.2) → FnG l.prog w K mg base CX0 12 fa fd ["_law_script"] sp := by
  have G := T0.g
  have e := hfa.symm.trans (PySem.W.mg_of X G aLaw)
  cases e
  have CLC : Cls K C := ⟨pgC, hdC, poC, saC⟩
  have NC : WIns K C := ⟨waC, wn, wt, wmC⟩
  have CLCk : Cls K Ck := ⟨pgCk, hdCk, poCk, saCk⟩
  have NCk : WIns K Ck := ⟨waCk, wn, wt, wmCk⟩
  have CLCn : Cls K Cn := ⟨pgCn, hdCn, poCn, saCn⟩
  have NCn : WIns K Cn := ⟨waCn, wn, wt, wmCn⟩
  have FMade := fun_mk (st := sMade) lMade cMade kMade
  have qMade : Cl K mg "made_of" fMade _ ["text", "signs"] := ⟨PySem.W.mg_of X G aMade, kMade, FMade.binds (ps := ["text", "signs"]) fun _ _ _ _ _ _ us hl => match us, hl with | [_, _], _ => rfl⟩
  have FNumeral := fun_mk (st := sNumeral) lNumeral cNumeral kNumeral
  have qNumeral : Cl K mg "is_numeral" fNumeral _ ["text", "signs", "most"] := ⟨PySem.W.mg_of X G aNumeral, kNumeral, FNumeral.binds (ps := ["text", "signs", "most"]) fun _ _ _ _ _ _ us hl => match us, hl with | [_, _, _], _ => rfl⟩
  have FShow := fun_mk (st := sShow) lShow cShow kShow
  have qShow : Cl K mg "show_whole" fShow _ ["number"] := ⟨PySem.W.mg_of X G aShow, kShow, FShow.binds (ps := ["number"]) fun _ _ _ _ _ _ us hl => match us, hl with | [_], _ => rfl⟩
  have FWhole := fun_mk (st := sWhole) lWhole cWhole kWhole
  have qWhole : Cl K mg "is_whole" fWhole _ ["thing"] := ⟨PySem.W.mg_of X G aWhole, kWhole, FWhole.binds (ps := ["thing"]) fun _ _ _ _ _ _ us hl => match us, hl with | [_], _ => rfl⟩
  have FName := fun_mk (st := sName) lName cName kName
  have qName : Cl K mg "is_name" fName _ ["thing"] := ⟨PySem.W.mg_of X G aName, kName, FName.binds (ps := ["thing"]) fun _ _ _ _ _ _ us hl => match us, hl with | [_], _ => rfl⟩
  have FGrains := fun_mk (st := sGrains) lGrains cGrains kGrains
  have qGrains : Cl K mg "is_grains" fGrains _ ["thing"] := ⟨PySem.W.mg_of X G aGrains, kGrains, FGrains.binds (ps := ["thing"]) fun _ _ _ _ _ _ us hl => match us, hl with | [_], _ => rfl⟩
  have FMark := fun_mk (st := sMark) lMark cMark kMark
  have qMark : Cl K mg "is_mark" fMark _ ["thing"] := ⟨PySem.W.mg_of X G aMark, kMark, FMark.binds (ps := ["thing"]) fun _ _ _ _ _ _ us hl => match us, hl with | [_], _ => rfl⟩
  have FDay := fun_mk (st := sDay) lDay cDay kDay
  have qDay : Cl K mg "is_day" fDay _ ["thing"] := ⟨PySem.W.mg_of X G aDay, kDay, FDay.binds (ps := ["thing"]) fun _ _ _ _ _ _ us hl => match us, hl with | [_], _ => rfl⟩
  have FRising := fun_mk (st := sRising) lRising cRising kRising
  have qRising : Cl K mg "are_rising" fRising _ ["things"] := ⟨PySem.W.mg_of X G aRising, kRising, FRising.binds (ps := ["things"]) fun _ _ _ _ _ _ us hl => match us, hl with | [_], _ => rfl⟩
  have FNInit : FunD K "__init__" "Note.__init__" (defArgs sNInit) (defBody sNInit) (defScope sNInit) [.int 0] [] fNInit _ := ⟨⟨_, _, _, _, _, _, _, _, _, _, rfl, lNInit, cNInit, .inr ⟨by simp, DNInit, _, [Value.int 0 tkDNInit], _, rfl, lDNInit, rfl, .cons (⟨_, rfl⟩) .nil⟩, .inl rfl⟩, kNInit⟩
  have mNInit : Meth K Cn "__init__" fNInit := ⟨aNInit, iNInit, kNInit⟩
  have FNEq := fun_mk (st := sNEq) lNEq cNEq kNEq
  have bNEq := FNEq.binds (ps := ["self", "other"]) fun _ _ _ _ _ _ us hl => match us, hl with | [_, _], _ => rfl
  have FNStr := fun_mk (st := sNStr) lNStr cNStr kNStr
  have bNStr := FNStr.binds (ps := ["self"]) fun _ _ _ _ _ _ us hl => match us, hl with | [_], _ => rfl
  have FNRepr := fun_mk (st := sNRepr) lNRepr cNRepr kNRepr
  have bNRepr := FNRepr.binds (ps := ["self"]) fun _ _ _ _ _ _ us hl => match us, hl with | [_], _ => rfl
  have FInit : FunD K "__init__" "Weight.__init__" (defArgs sInit) (defBody sInit) (defScope sInit) [.int 1] [] fInit _ := ⟨⟨_, _, _, _, _, _, _, _, _, _, rfl, lInit, cInit, .inr ⟨by simp, DInit, _, [Value.int 1 tkDInit], _, rfl, lDInit, rfl, .cons (⟨_, rfl⟩) .nil⟩, .inl rfl⟩, kInit⟩
  have mInit : Meth K C "__init__" fInit := ⟨aInit, iInit, kInit⟩
  have FEq := fun_mk (st := sEq) lEq cEq kEq
  have bEq := FEq.binds (ps := ["self", "other"]) fun _ _ _ _ _ _ us hl => match us, hl with | [_, _], _ => rfl
  have FPart := fun_mk (st := sPart) lPart cPart kPart
  have qPart : Cl K mg "is_part" fPart _ ["thing"] := ⟨PySem.W.mg_of X G aPart, kPart, FPart.binds (ps := ["thing"]) fun _ _ _ _ _ _ us hl => match us, hl with | [_], _ => rfl⟩
  have FParts := fun_mk (st := sParts) lParts cParts kParts
  have qParts : Cl K mg "is_parts" fParts _ ["thing"] := ⟨PySem.W.mg_of X G aParts, kParts, FParts.binds (ps := ["thing"]) fun _ _ _ _ _ _ us hl => match us, hl with | [_], _ => rfl⟩
  have FCInit : FunD K "__init__" "Cask.__init__" (defArgs sCInit) (defBody sCInit) (defScope sCInit) [.non] [] fCInit _ := ⟨⟨_, _, _, _, _, _, _, _, _, _, rfl, lCInit, cCInit, .inr ⟨by simp, DCInit, _, [Value.none], _, rfl, lDCInit, rfl, .cons (rfl) .nil⟩, .inl rfl⟩, kCInit⟩
  have mCInit : Meth K Ck "__init__" fCInit := ⟨aCInit, iCInit, kCInit⟩
  have FCEq := fun_mk (st := sCEq) lCEq cCEq kCEq
  have bCEq := FCEq.binds (ps := ["self", "other"]) fun _ _ _ _ _ _ us hl => match us, hl with | [_, _], _ => rfl
  have FDeck := fun_mk (st := sDeck) lDeck cDeck kDeck
  have qDeck : Cl K mg "_law_deck" fDeck _ ["_law_cell"] := ⟨PySem.W.mg_of X G aDeck, kDeck, FDeck.binds (ps := ["_law_cell"]) fun _ _ _ _ _ _ us hl => match us, hl with | [_], _ => rfl⟩
  have FDraw := fun_mk (st := sDraw) lDraw cDraw kDraw
  have qDraw : Cl K mg "_law_draw" fDraw _ ["_law_deck_here", "_law_most"] := ⟨PySem.W.mg_of X G aDraw, kDraw, FDraw.binds (ps := ["_law_deck_here", "_law_most"]) fun _ _ _ _ _ _ us hl => match us, hl with | [_, _], _ => rfl⟩
  have FLNames := fun_mk (st := sLNames) lLNames cLNames kLNames
  have qLNames : Cl K mg "_law_names" fLNames _ ["_law_deck_here", "_law_many"] := ⟨PySem.W.mg_of X G aLNames, kLNames, FLNames.binds (ps := ["_law_deck_here", "_law_many"]) fun _ _ _ _ _ _ us hl => match us, hl with | [_, _], _ => rfl⟩
  have FLDay := fun_mk (st := sLDay) lLDay cLDay kLDay
  have qLDay : Cl K mg "_law_day" fLDay _ ["_law_deck_here"] := ⟨PySem.W.mg_of X G aLDay, kLDay, FLDay.binds (ps := ["_law_deck_here"]) fun _ _ _ _ _ _ us hl => match us, hl with | [_], _ => rfl⟩
  have FLGrains := fun_mk (st := sLGrains) lLGrains cLGrains kLGrains
  have qLGrains : Cl K mg "_law_grains" fLGrains _ ["_law_deck_here"] := ⟨PySem.W.mg_of X G aLGrains, kLGrains, FLGrains.binds (ps := ["_law_deck_here"]) fun _ _ _ _ _ _ us hl => match us, hl with | [_], _ => rfl⟩
  have FLFields := fun_mk (st := sLFields) lLFields cLFields kLFields
  have qLFields : Cl K mg "_law_fields" fLFields _ ["_law_note"] := ⟨PySem.W.mg_of X G aLFields, kLFields, FLFields.binds (ps := ["_law_note"]) fun _ _ _ _ _ _ us hl => match us, hl with | [_], _ => rfl⟩
  have FLOthers := fun_mk (st := sLOthers) lLOthers cLOthers kLOthers
  have qLOthers : Cl K mg "_law_others" fLOthers _ ["_law_deck_here", "_law_parts"] := ⟨PySem.W.mg_of X G aLOthers, kLOthers, FLOthers.binds (ps := ["_law_deck_here", "_law_parts"]) fun _ _ _ _ _ _ us hl => match us, hl with | [_, _], _ => rfl⟩
  have FLTold := fun_mk (st := sLTold) lLTold cLTold kLTold
  have qLTold : Cl K mg "_law_told" fLTold _ ["_law_one", "_law_other", "_law_due"] := ⟨PySem.W.mg_of X G aLTold, kLTold, FLTold.binds (ps := ["_law_one", "_law_other", "_law_due"]) fun _ _ _ _ _ _ us hl => match us, hl with | [_, _, _], _ => rfl⟩
  have FLShown := fun_mk (st := sLShown) lLShown cLShown kLShown
  have qLShown : Cl K mg "_law_shown" fLShown _ ["_law_note"] := ⟨PySem.W.mg_of X G aLShown, kLShown, FLShown.binds (ps := ["_law_note"]) fun _ _ _ _ _ _ us hl => match us, hl with | [_], _ => rfl⟩
  have FLRight := fun_mk (st := sLRight) lLRight cLRight kLRight
  have qLRight : Cl K mg "_law_right" fLRight _ ["_law_deck_here", "_law_parts"] := ⟨PySem.W.mg_of X G aLRight, kLRight, FLRight.binds (ps := ["_law_deck_here", "_law_parts"]) fun _ _ _ _ _ _ us hl => match us, hl with | [_, _], _ => rfl⟩
  have FLaw := fun_mk (st := sLaw) lLaw cLaw kLaw
  refine ⟨PySem.W.fnOf "law" "law" (defArgs sLaw) (defBody sLaw) (defScope sLaw) .none kVLaw dcLaw pmLaw anLaw cdLaw ctLaw, [], @spLawT ⟨[], false⟩ K, fun p hp => (by
    cases hp), fun s v => .of_eq rfl, fun H a ns hl hT hS => ⟨a, ns, rfl, hS, hl, fun p hp => (by
    cases hp), fun _ => rfl⟩, fun base _ _ tabs => ?_⟩
  letI : TabT := ⟨[], false⟩
  have B : Blt mg := ⟨(PySem.W.mg_none_of X G z_isinstance), (PySem.W.mg_none_of X G z_int), (PySem.W.mg_none_of X G z_bool)⟩
  have T : WTxt K mg C fWhole := ⟨CLC, nC_top, nC_bottom, PySem.W.mg_of X G aC, PySem.W.mg_of X G aWhole, kWhole, PySem.W.mg_of X G ggcd⟩
  have M : Mk K C fInit := ⟨mkC, aInit, iInit, kcC⟩
  obtain ⟨ds1, vd, bI1⟩ := bindsI1 FInit
  have GWv := ok_wholeV (P := l.prog) (w := w) (base := base) FWhole B
  have GI := ok_init FInit T (_root_.K.FnOk.ints GWv) qWhole.b
  have GSh := ok_show (P := l.prog) (w := w) (mg := mg) (base := base) FShow (PySem.W.mg_none_of X G z_str) (PySem.W.mg_none_of X G z_reversed) (PySem.W.mg_of X G gBLK) big
  have GMd := ok_made (P := l.prog) (w := w) (base := base) FMade (PySem.W.mg_none_of X G z_all)
  have GNv := ok_name FName B (PySem.W.mg_none_of X G z_str) (PySem.W.mg_none_of X G z_len) (PySem.W.mg_of X G gML) eML (PySem.W.mg_of X G gLT) eLT qMade GMd
  have GNl := ok_numeral FNumeral (PySem.W.mg_none_of X G z_len) qMade GMd
  have GMv := ok_mark FMark B (PySem.W.mg_none_of X G z_str) qNumeral GNl (PySem.W.mg_of X G gSX) eSX (PySem.W.mg_of X G gMF) eMF
  have GGr := ok_grains FGrains qWhole GWv
  have GDv := ok_day FDay (PySem.W.mg_of X G gLD) eLD qWhole GWv
  have TN : NTxt K mg Cn := ⟨CLCn, nCn_name, nCn_ware, nCn_grains, nCn_born, PySem.W.mg_of X G aCn⟩
  have MN : Mk K Cn fNInit := ⟨mkCn, aNInit, iNInit, kcCn⟩
  have bNI : Binds K _ ["self", "name", "ware", "grains", "born"] [] := bindsNI FNInit
  have GNI := ok_ninit FNInit TN qName GNv qGrains GGr qDay GDv
  have GNR := ok_nrepr FNRepr TN qShow GSh
  have GNS := ok_nstr FNStr TN qShow GSh
  have owN : ∀ N qual sc f cdv A outer s H E, OwnSays (cxOf CX0 l.prog w K mg base N qual sc f cdv A outer s H E).nox K (goodN Cn) ownN := fun N qual sc f cdv A outer s H E => ow_n (X := (cxOf CX0 l.prog w K mg base N qual sc f cdv A outer s H E).nox) pass0 GNR aNRepr iNRepr bNRepr
  have GRi := od_rising (P := l.prog) (w := w) (base := base) FRising (PySem.W.mg_none_of X G z_all) (PySem.W.mg_none_of X G z_zip)
  have TC : CTxt K mg Ck := ⟨CLCk, nCk_mark, nCk_since, nCk_parts, PySem.W.mg_of X G aCk⟩
  have MC : Mk K Ck fCInit := ⟨mkCk, aCInit, iCInit, kcCk⟩
  have GPs := od_parts0 FParts B (PySem.W.mg_none_of X G z_len) (PySem.W.mg_none_of X G z_tuple) (PySem.W.mg_none_of X G z_all) (PySem.W.mg_of X G gMP) eMP qPart ok_no qRising GRi
  have GCI := ok_cinit0 FCInit TC qMark GMv qDay GDv qParts GPs
  obtain ⟨dsc, vc, bC2⟩ := bindsC2 FCInit
  have kA : KitA K Cn C Ck := ⟨CLCn, NCn, CLC, NC, CLCk, NCk, kitA_of ⟨kT0, fT0, sT0⟩ ⟨kT1, fT1, sT1⟩ ⟨kT2, fT2, sT2⟩ ⟨kT3, fT3, sT3⟩ ⟨kT4, fT4, sT4⟩ ⟨kT5, fT5, sT5⟩ ⟨kT6, fT6, sT6⟩, kW_, kC_, kNW_, kNC_, fW_, fC_, fNW_, fNC_⟩
  have GDk := od_deck (ok_deck (P := l.prog) (w := w) (mg := mg) (base := base) rfl FDeck B)
  have GD := od_draw (ok_draw (P := l.prog) (w := w) (mg := mg) (base := base) rfl FDraw)
  have GDa := od_lday FLDay qDraw GD
  have GGn := od_lgrains FLGrains qDraw GD
  have GNa := od_lnames FLNames (PySem.W.mg_none_of X G z_range) qDraw GD
  have GFi := od_lfieldsA (P := l.prog) (w := w) (base := base) FLFields TN
  have GQ := FnOk.eqA (S := fun a => a = C ∨ a = Ck) (ok_neq (P := l.prog) (w := w) (base := base) FNEq TN B NCn)
  have GW := ok_weqA (S := fun a => a = C ∨ a = Ck) (N := Cn) (P := l.prog) (w := w) (base := base) FEq T B (KitA.ne kNW_) CLCn NCn
  have GK := ok_ceqA (S := fun a => a = C ∨ a = Ck) (N := Cn) (P := l.prog) (w := w) (base := base) FCEq TC B (KitA.ne kNC_) CLCn NCn
  have OO : OwF l.prog w K mg base 1 (owA K Cn (fun a => a = C ∨ a = Ck)) := ow3 GQ ⟨aNEq, iNEq, wneCn, wmCn⟩ bNEq GW ⟨aEq, iEq, wneC, wmC⟩ bEq GK ⟨aCEq, iCEq, wneCk, wmCk⟩ bCEq
  have GTo := od_told FLTold (PySem.W.mg_none_of X G z_repr) OO owN
  have GSt := od_nstr GNS
  have GRe := od_nrepr GNR
  have GSw := od_shown FLShown (PySem.W.mg_none_of X G z_str) (PySem.W.mg_none_of X G z_repr) qLFields GFi GSt aNStr iNStr bNStr fmCn wmCn GRe aNRepr iNRepr bNRepr owN
  have GOt := od_others FLOthers (PySem.W.mg_none_of X G z_range) (PySem.W.mg_none_of X G z_tuple) (PySem.W.mg_none_of X G z_list) qDraw GD qLNames GNa
  have GRr := od_rightA FLRight (PySem.W.mg_none_of X G z_str) (PySem.W.mg_none_of X G z_repr) (PySem.W.mg_none_of X G z_list) kA TN MN GNI bNI (kbNI FNInit) T M GI vd bI1 TC MC GCI vc bC2 qLFields GFi qLTold GTo qLShown GSw qLOthers GOt GSt aNStr iNStr bNStr owN
  exact law_endT (Nat.le_refl _) (od_law FLaw B (PySem.W.mg_none_of X G z_range) qDeck GDk qDraw GD qLNames GNa qLGrains GGn qLDay GDa qLRight GRr)
theorem walk {l : PySem.W.OpenLaw} {q : Program} {loose : List Str} {XP : (Str → Option Value) → Heap → Prop} {YP : World → Heap → Prop} {d : DefRec} {K : Params → PySem.W.Frag} (hn : l.most = some 63) (hdf : d.params.defaults = [])
    (hY : ∀ (w : World) (h : Heap), YP w h → (K w.params).In h)
    (F : ∀ (w : World) (mg mb : Str → Option Value) (fa : Addr) (h : Heap) (lo : List Str) (mean : ExcName → Option Value), (K w.params).In h → PyProof.Rows.Top q lo mean mg mb h → mg d.name = some (.ref fa) →
      ∃ (fd : FuncData) (cs : List (Addr × Addr)) (sp : Sp), (∀ p ∈ cs, TblAt (K w.params) h p) ∧ (∀ (s : Shared) (v : Value), BindsTo s fd ⟨[v], []⟩ [("_law_script", v)]) ∧
      (∀ (H : Hp) (a : Addr) (ns : List Int), ns.length ≤ 63 → (∀ p ∈ cs, H p.2 = some (.tbl #[])) → SqL (K w.params) H a (ns.map V.int) → sp [.ref a] H (fun v _ => v = .bl true) fun _ _ _ => False) ∧
      ∀ base : Heap, (K w.params).In base → base.Ns mainGlobals mg → (∀ p ∈ cs, LamX.TabB base mg p.1 p.2) → FnG l.prog w (K w.params) mg base CX0 12 fa fd ["_law_script"] sp) :
    PySem.W.WalkO q loose XP YP l.row.toRowW d [] (fun f vs => PySem.call f vs) :=
  walk_ofT (n := 63) (k := 12) (x := "_law_script") (CX := fun _ => CX0) hn (by decide) hdf ⟨rfl, by decide, by decide⟩ hY F fun _ _ _ _ _ z => z
end K
open PySem PySem.W PyProof.Rows
set_option maxRecDepth 100000 in
set_option maxHeartbeats 0 in
theorem PySem.Challenge.cw_casknotes_k10_notes_equal_and_shown_holds : PySem.Challenge.rw_casknotes_k10_notes_equal_and_shown.Holds := by
  w_on; o_law; k_head; (case hw => w_witness2)
  k_fill
  refine K.walk (l := PySem.Challenge.rw_casknotes_k10_notes_equal_and_shown) rfl rfl (fun w h Y => PySem.W.kIn_of Y) ?F
  case F =>
    intro w mg mb fa h lo mean KX T0 hmg
    refine' K.all_mk KX T0 hmg ?aC ?pgC ?hdC ?poC ?saC ?mkC ?kcC ?nC_top ?nC_bottom ?waC ?wmC ?wneC ?wn ?wt ?aCk ?pgCk ?hdCk ?poCk ?saCk ?mkCk ?kcCk ?nCk_mark ?nCk_since ?nCk_parts ?waCk ?wmCk ?wneCk ?aCn ?pgCn ?hdCn ?poCn ?saCn ?mkCn ?kcCn ?nCn_name ?nCn_ware ?nCn_grains ?nCn_born ?waCn ?wmCn ?wneCn ?aMade ?lMade ?cMade ?kMade ?aNumeral ?lNumeral ?cNumeral ?kNumeral ?aShow ?lShow ?cShow ?kShow ?aWhole ?lWhole ?cWhole ?kWhole ?aName ?lName ?cName ?kName ?aGrains ?lGrains ?cGrains ?kGrains ?aMark ?lMark ?cMark ?kMark ?aDay ?lDay ?cDay ?kDay ?aRising ?lRising ?cRising ?kRising ?aNInit ?iNInit ?lNInit ?cNInit ?kNInit ?lDNInit ?aNEq ?iNEq ?lNEq ?cNEq ?kNEq ?aNStr ?iNStr ?lNStr ?cNStr ?kNStr ?aNRepr ?iNRepr ?lNRepr ?cNRepr ?kNRepr ?aInit ?iInit ?lInit ?cInit ?kInit ?lDInit ?aEq ?iEq ?lEq ?cEq ?kEq ?aPart ?lPart ?cPart ?kPart ?aParts ?lParts ?cParts ?kParts ?aCInit ?iCInit ?lCInit ?cCInit ?kCInit ?lDCInit ?aCEq ?iCEq ?lCEq ?cCEq ?kCEq ?aDeck ?lDeck ?cDeck ?kDeck ?aDraw ?lDraw ?cDraw ?kDraw ?aLNames ?lLNames ?cLNames ?kLNames ?aLDay ?lLDay ?cLDay ?kLDay ?aLGrains ?lLGrains ?cLGrains ?kLGrains ?aLFields ?lLFields ?cLFields ?kLFields ?aLOthers ?lLOthers ?cLOthers ?kLOthers ?aLTold ?lLTold ?cLTold ?kLTold ?aLShown ?lLShown ?cLShown ?kLShown ?aLRight ?lLRight ?cLRight ?kLRight ?aLaw ?lLaw ?cLaw ?kLaw ?gBLK ?big ?gSX ?eSX ?gLT ?eLT ?gML ?eML ?gMF ?eMF ?gLD ?eLD ?gMP ?eMP ?ggcd ?z_all ?z_bool ?z_int ?z_isinstance ?z_len ?z_list ?z_range ?z_repr ?z_reversed ?z_str ?z_tuple ?z_zip ?fmCn ?kT0 ?fT0 ?sT0 ?kT1 ?fT1 ?sT1 ?kT2 ?fT2 ?sT2 ?kT3 ?fT3 ?sT3 ?kT4 ?fT4 ?sT4 ?kT5 ?fT5 ?sT5 ?kT6 ?fT6 ?sT6 ?kW_ ?kC_ ?kNW_ ?kNC_ ?fW_ ?fC_ ?fNW_ ?fNC_
    (case aC => k_is)
    (case pgC => k_is)
    (case hdC => k_is)
    (case poC => k_is)
    (case saC => k_is)
    (case mkC => k_is)
    (case kcC => k_is)
    (case nC_top => k_is)
    (case nC_bottom => k_is)
    (case waC => k_is)
    (case wmC => k_is)
    (case wneC => k_is)
    (case wn => k_is)
    (case wt => k_is)
    (case aCk => k_is)
    (case pgCk => k_is)
    (case hdCk => k_is)
    (case poCk => k_is)
    (case saCk => k_is)
    (case mkCk => k_is)
    (case kcCk => k_is)
    (case nCk_mark => k_is)
    (case nCk_since => k_is)
    (case nCk_parts => k_is)
    (case waCk => k_is)
    (case wmCk => k_is)
    (case wneCk => k_is)
    (case aCn => k_is)
    (case pgCn => k_is)
    (case hdCn => k_is)
    (case poCn => k_is)
    (case saCn => k_is)
    (case mkCn => k_is)
    (case kcCn => k_is)
    (case nCn_name => k_is)
    (case nCn_ware => k_is)
    (case nCn_grains => k_is)
    (case nCn_born => k_is)
    (case waCn => k_is)
    (case wmCn => k_is)
    (case wneCn => k_is)
    (case aMade => k_is)
    (case lMade => k_is)
    (case cMade => k_is)
    (case kMade => k_is)
    (case aNumeral => k_is)
    (case lNumeral => k_is)
    (case cNumeral => k_is)
    (case kNumeral => k_is)
    (case aShow => k_is)
    (case lShow => k_is)
    (case cShow => k_is)
    (case kShow => k_is)
    (case aWhole => k_is)
    (case lWhole => k_is)
    (case cWhole => k_is)
    (case kWhole => k_is)
    (case aName => k_is)
    (case lName => k_is)
    (case cName => k_is)
    (case kName => k_is)
    (case aGrains => k_is)
    (case lGrains => k_is)
    (case cGrains => k_is)
    (case kGrains => k_is)
    (case aMark => k_is)
    (case lMark => k_is)
    (case cMark => k_is)
    (case kMark => k_is)
    (case aDay => k_is)
    (case lDay => k_is)
    (case cDay => k_is)
    (case kDay => k_is)
    (case aRising => k_is)
    (case lRising => k_is)
    (case cRising => k_is)
    (case kRising => k_is)
    (case aNInit => k_is)
    (case iNInit => k_is)
    (case lNInit => k_is)
    (case cNInit => k_is)
    (case kNInit => k_is)
    (case lDNInit => k_is)
    (case aNEq => k_is)
    (case iNEq => k_is)
    (case lNEq => k_is)
    (case cNEq => k_is)
    (case kNEq => k_is)
    (case aNStr => k_is)
    (case iNStr => k_is)
    (case lNStr => k_is)
    (case cNStr => k_is)
    (case kNStr => k_is)
    (case aNRepr => k_is)
    (case iNRepr => k_is)
    (case lNRepr => k_is)
    (case cNRepr => k_is)
    (case kNRepr => k_is)
    (case aInit => k_is)
    (case iInit => k_is)
    (case lInit => k_is)
    (case cInit => k_is)
    (case kInit => k_is)
    (case lDInit => k_is)
    (case aEq => k_is)
    (case iEq => k_is)
    (case lEq => k_is)
    (case cEq => k_is)
    (case kEq => k_is)
    (case aPart => k_is)
    (case lPart => k_is)
    (case cPart => k_is)
    (case kPart => k_is)
    (case aParts => k_is)
    (case lParts => k_is)
    (case cParts => k_is)
    (case kParts => k_is)
    (case aCInit => k_is)
    (case iCInit => k_is)
    (case lCInit => k_is)
    (case cCInit => k_is)
    (case kCInit => k_is)
    (case lDCInit => k_is)
    (case aCEq => k_is)
    (case iCEq => k_is)
    (case lCEq => k_is)
    (case cCEq => k_is)
    (case kCEq => k_is)
    (case aDeck => k_is)
    (case lDeck => k_is)
    (case cDeck => k_is)
    (case kDeck => k_is)
    (case aDraw => k_is)
    (case lDraw => k_is)
    (case cDraw => k_is)
    (case kDraw => k_is)
    (case aLNames => k_is)
    (case lLNames => k_is)
    (case cLNames => k_is)
    (case kLNames => k_is)
    (case aLDay => k_is)
    (case lLDay => k_is)
    (case cLDay => k_is)
    (case kLDay => k_is)
    (case aLGrains => k_is)
    (case lLGrains => k_is)
    (case cLGrains => k_is)
    (case kLGrains => k_is)
    (case aLFields => k_is)
    (case lLFields => k_is)
    (case cLFields => k_is)
    (case kLFields => k_is)
    (case aLOthers => k_is)
    (case lLOthers => k_is)
    (case cLOthers => k_is)
    (case kLOthers => k_is)
    (case aLTold => k_is)
    (case lLTold => k_is)
    (case cLTold => k_is)
    (case kLTold => k_is)
    (case aLShown => k_is)
    (case lLShown => k_is)
    (case cLShown => k_is)
    (case kLShown => k_is)
    (case aLRight => k_is)
    (case lLRight => k_is)
    (case cLRight => k_is)
    (case kLRight => k_is)
    (case aLaw => k_is)
    (case lLaw => k_is)
    (case cLaw => k_is)
    (case kLaw => k_is)
    (case gBLK => k_is)
    (case big => decide +kernel)
    (case gSX => k_is)
    (case eSX => decide +kernel)
    (case gLT => k_is)
    (case eLT => decide +kernel)
    (case gML => k_is)
    (case eML => decide +kernel)
    (case gMF => k_is)
    (case eMF => decide +kernel)
    (case gLD => k_is)
    (case eLD => decide +kernel)
    (case gMP => k_is)
    (case eMP => decide +kernel)
    (case ggcd => k_is)
    (case z_all => k_is)
    (case z_bool => k_is)
    (case z_int => k_is)
    (case z_isinstance => k_is)
    (case z_len => k_is)
    (case z_list => k_is)
    (case z_range => k_is)
    (case z_repr => k_is)
    (case z_reversed => k_is)
    (case z_str => k_is)
    (case z_tuple => k_is)
    (case z_zip => k_is)
    (case fmCn => k_is)
    (case kT0 => kit_is)
    (case fT0 => k_is)
    (case sT0 => k_is)
    (case kT1 => kit_is)
    (case fT1 => k_is)
    (case sT1 => k_is)
    (case kT2 => kit_is)
    (case fT2 => k_is)
    (case sT2 => k_is)
    (case kT3 => kit_is)
    (case fT3 => k_is)
    (case sT3 => k_is)
    (case kT4 => kit_is)
    (case fT4 => k_is)
    (case sT4 => k_is)
    (case kT5 => kit_is)
    (case fT5 => k_is)
    (case sT5 => k_is)
    (case kT6 => kit_is)
    (case fT6 => k_is)
    (case sT6 => k_is)
    (case kW_ => kit_is)
    (case kC_ => kit_is)
    (case kNW_ => kit_is)
    (case kNC_ => kit_is)
    (case fW_ => k_is)
    (case fC_ => k_is)
    (case fNW_ => k_is)
    (case fNC_ => k_is)
