import PyProof.Rows.All
import Wide.All
import OpenK.AllK
import Wide.FinOn
import HandS.ForMost
import HandS.Rev
import PyProof.JoinWalk
import HandS.Exc
import HandS.ExcOwn
import HandS.ExcIs
import HandS.ExcField
import HandS.ExcInit
import HandS.HotCalls
import HandS.WordsExc
import HandS.IsInst
import HandS.List
import KE.KExcIs
import PyProof.Rows.CountFlat
import HandS.OwnEq
import PyProof.InstEq
import KE.KCallOwn
import HandS.Text
import HandS.Codes
import HandS.Iter
import HandS.Comp
import HandS.Gcd
import HandS.Wide
import HandS.FStr
import HandS.StrMore
import HandS.Style
import HandS.NoneIn
import HandS.Defaults
import HandS.Spec
import HandS.Walk
import HandS.TupLe
import PySem.Challenge.RW_casknotes_k04_weights_by_their_words
set_option Elab.async false
set_option linter.all false
set_option maxRecDepth 100000
set_option maxHeartbeats 4000000
/-! repr of things, by the abstract heap: what is told of a value, beneath a running body whose guards are known -/
namespace Rp
open PySem PySem.Spec PyProof.Rows L2

/-- beneath X: room for n calls, X's frames, the guards that run -/
structure Low (X : Cx) (n : Nat) (g : List Code) (A : Around) : Prop where
  rm : Room n A
  fr : A.frames = X.A.frames
  gd : A.guards = some g
section
variable {X : Cx} {n m : Nat} {g : List Code} {A : Around} {a : Addr}
theorem Low.in1 (s : Low X (n + 1) g A) : Low X n g A.in1 := ⟨s.rm.in1, s.fr, s.gd⟩
theorem Low.mono (s : Low X n g A) (h : m ≤ n) : Low X m g A := ⟨s.rm.mono h, s.fr, s.gd⟩
theorem Low.guard {id : String} {v : Value} {us : List Value} (s : Low X (n + 1) g A)
    (hg : (Code.builtin id ⟨v :: us, []⟩).guards = [Code.builtin id ⟨v :: us, []⟩]) (hw : (Code.builtin id ⟨v :: us, []⟩).weight = 1) (hu : (Code.builtin id ⟨v :: us, []⟩).cUnits = 1)
    (he : (Code.builtin id ⟨v :: us, []⟩).envs = []) :
    Low X n (Code.builtin id ⟨v :: us, []⟩ :: g) (A.under (Code.builtin id ⟨v :: us, []⟩)) := by
  obtain ⟨⟨r1, r2, r3⟩, f, gd⟩ := s
  refine ⟨⟨r1, ?_, ?_⟩, ?_, ?_⟩
  · show A.depth + (Code.builtin id ⟨v :: us, []⟩).weight + 3 * n + 5 < _
    rw [hw]; omega
  · show A.units + (Code.builtin id ⟨v :: us, []⟩).cUnits + 16 * n + 200 < _
    rw [hu]; omega
  · show pushEnvs (Code.builtin id ⟨v :: us, []⟩).envs A.frames = _
    rw [he]; exact f
  · show pushGuards (Code.builtin id ⟨v :: us, []⟩).guards A.guards = _
    rw [hg, gd]; rfl
end

/-- what repr tells of v, at any heap grown from H -/
structure Says (X : Cx) (n : Nat) (as : List Addr) (H : Hp) (v : V) (t : Str) : Prop where
  und : ∀ (A : Around) (g : List Code) (base : Nat) (pins : List (Addr × Obj)) (s : Shared) (σ : L2.St) (H1 : Hp) (u : Value), Low X n g A → (∀ b ∈ as, Clear g b) → Inv X pins σ H1 s → Same H H1 → RelV v u → base + t.length ≤ sizeLine →
    wpAny (model X.prog X.w) A (pyReprUnder base u) (fun r s' => r = t ∧ ∃ H2, Inv X pins σ H2 s' ∧ Same H1 H2) X.xe s
  top : ∀ (A : Around) (g : List Code) (pins : List (Addr × Obj)) (s : Shared) (σ : L2.St) (H1 : Hp) (u : Value), Low X n g A → (∀ b ∈ as, Clear g b) → Inv X pins σ H1 s → Same H H1 → RelV v u → t.length ≤ sizeLine →
    wpAny (model X.prog X.w) A (call (.builtin "repr") [u]) (fun r s' => (∃ tk, r = .str t tk) ∧ ∃ H2, Inv X pins σ H2 s' ∧ Same H1 H2) X.xe s

section
variable {X : Cx} {n m : Nat} {as as' : List Addr} {H H' : Hp} {v : V} {t : Str} {a : Addr}
theorem Says.grow (h : Says X n as H v t) (e : Same H H') : Says X n as H' v t :=
  ⟨fun A g base pins s σ H1 u lo cl I x => h.und A g base pins s σ H1 u lo cl I (e.trans x), fun A g pins s σ H1 u lo cl I x => h.top A g pins s σ H1 u lo cl I (e.trans x)⟩
theorem Says.mono (h : Says X n as H v t) (hn : n ≤ m) (hs : ∀ b ∈ as, b ∈ as') : Says X m as' H v t :=
  ⟨fun A g base pins s σ H1 u lo cl => h.und A g base pins s σ H1 u (lo.mono hn) fun b hb => cl b (hs b hb), fun A g pins s σ H1 u lo cl => h.top A g pins s σ H1 u (lo.mono hn) fun b hb => cl b (hs b hb)⟩
theorem says_leaf (hi : ∀ u, RelV v u → ReprIs X.prog X.w u t) (ht : ∀ (A : Around) (E : Value → Shared → Prop) (s : Shared) (u : Value) (Q : Value → Shared → Prop), RelV v u → t.length ≤ sizeLine → Q (.str t s.toks) { s with toks := s.toks + 1 } → wpAny (model X.prog X.w) A (call (.builtin "repr") [u]) Q E s) :
    Says X 0 [] H v t :=
  ⟨fun A g base pins s σ H1 u _ _ I _ r hz => hi u r base hz A X.xe s _ fun tk => ⟨rfl, H1, I.tok tk, Same.refl H1⟩,
   fun A g pins s σ H1 u _ _ I _ r hz => ht A X.xe s u _ r hz ⟨⟨_, rfl⟩, H1, I.tok _, Same.refl H1⟩⟩
theorem says_bl (b : Bool) : Says X 0 [] H (.bl b) (if b then "True" else "False" : String) := by
  refine says_leaf (fun u r => ?_) fun A E s u Q r _ q => ?_
  · cases r
    have h := ReprIs.bool (prog := X.prog) (w := X.w) b
    cases b <;> exact h
  · cases r
    refine PySem.P.repr_of_bool ?_
    cases b <;> exact q
theorem says_non : Says X 0 [] H .non ("None" : String) := by
  refine says_leaf (fun u r => ?_) fun A E s u Q r _ q => ?_
  · cases r; exact ReprIs.none
  · cases r; exact PySem.P.repr_of_none q
theorem says_int {i : Int} (hi : i.natAbs.log2 < 1920) : Says X 0 [] H (.int i) (toString i) := by
  refine says_leaf (fun u r => ?_) fun A E s u Q r _ q => ?_
  · obtain ⟨tk, rfl⟩ := r; exact ReprIs.int tk hi
  · obtain ⟨tk, rfl⟩ := r; exact PySem.P.repr_of_int hi q
theorem says_str {x : Str} (hx : (reprText x).length ≤ sizeLine) : Says X 0 [] H (.str x) (reprText x) := by
  refine says_leaf (fun u r => ?_) fun A E s u Q r hz q => ?_
  · obtain ⟨tk, rfl⟩ := r; exact ReprIs.str x tk hx
  · obtain ⟨tk, rfl⟩ := r; exact PySem.P.repr_of_str q hz
end

/-! ### lists -/
section
variable {X : Cx} {n : Nat} {as : List Addr} {H : Hp} {a P : Addr} {xs : List V} {ts : List Str} {base : Nat} {g : List Code} {A : Around} {pins : List (Addr × Obj)} {σ : L2.St}
abbrev loopC (a P : Addr) (i k : Nat) : Code := .builtin "list.__repr__.loop" ⟨[.ref a, rawInt i, .ref P, rawInt (k : Int)], []⟩
theorem low_loop (lo : Low X (n + 1) g A) (i k : Nat) : Low X n (loopC a P i k :: g) (A.under (loopC a P i k)) :=
  lo.guard (by show (if Code.isGuard _ then _ else _) = _; rw [isGuard_list_loop]; rfl)
    (by simp only [Code.weight, isGuard_list_loop]; rfl)
    (by rfl) (by first | rfl | simp [Code.envs, Code.isFrame])
theorem lst_turns (lo : Low X (n + 1) g A) (hcl : ∀ b ∈ as, Clear g b) (hna : a ∉ as) (hit : ∀ (i : Nat) (x : V), xs[i]? = some x → ∃ t, ts[i]? = some t ∧ Says X n as H x t) (hl : ts.length = xs.length)
    (hsz : base + (listText ts).length ≤ sizeLine) (hq : SqL X.K H a xs) (haP : a ≠ P) {R : Result → Shared → Prop}
    (fin : ∀ s H2 u, Inv X pins σ H2 s → Same H H2 → R (.ok (.ret (.str (listText ts) u))) s) (bad : ∀ e s, X.xe e s → R (.error e) s) :
    ∀ (k i : Nat) (s : Shared) (H1 : Hp) (acc : Array Value) (c : Nat) (done : List (Str × Tok)), xs.length - i = k → i ≤ xs.length → Inv X pins σ H1 s → Same H H1 → FpOk X pins H1 P →
      s.heap.get? P = some { cls := .type "list", dict := none, data := .seq acc c, slots := #[] } → acc.toList = strValues done → done.map (·.1) = ts.take i →
      codeAny (model X.prog X.w) A (loopC a P i (base + piled (ts.take i))) R s := by
  have hL := textFrom_len ts 0 "["
  have hX : (listText ts).length = (textFrom 0 "[" ts).length + 1 := by
    unfold listText
    rw [strLen_append]; rfl
  have hsz0 : (listText ts).length ≤ sizeLine := by omega
  have small : ∀ t ∈ ts, t.length ≤ sizeLine := fun t ht => by
    have h2 := hL.2.1 t ht
    omega
  have hp3 := piled_le_listText ts
  have hn1 : xs.length ≤ sizeLine := by
    have h1 := hL.1
    rw [if_neg (Nat.lt_irrefl 0)] at h1
    omega
  intro k
  induction k with
  | zero =>
    intro i s H1 acc c done hk hi I hs fp hP hacc hdone
    have hin : i = xs.length := by omega
    obtain ⟨its, rv, pl, _⟩ := I.list (hs.seq hq)
    obtain ⟨oa, na, ho, _, _, hd⟩ := pl
    refine codeAny_builtin PySem.F.entry_list_repr_loop ?_
    show wpAny _ _ (Builtin.«list.__repr__.loop» ⟨[.ref a, .int i 0, .ref P, .int ((base + piled (ts.take i) : Nat) : Int) 0], []⟩) _ _ s
    rw [repr_loop_tree]
    refine wpAny_bind (wpAny_listItems ho hd ?_)
    have none_ : its.toArray[((i : Int)).toNat]? = none := by
      have := rv.length
      simp; omega
    simp only [none_]
    unfold reprEnd
    refine wpAny_bind (wpAny_listItems hP rfl ?_)
    rw [hacc, repr_fold]
    have hall : done.map (·.1) = ts := by rw [hdone, hin, ← hl, List.take_length]
    refine wpAny_bind (wpAny_pure ?_)
    rw [hall]
    exact wpAny_bind (wpAny_mkStr (wpAny_pure (fin _ H1 _ (I.tok _) hs)) hsz0)
  | succ k ih =>
    intro i s H1 acc c done hk hi I hs fp hP hacc hdone
    have hlt : i < xs.length := by omega
    obtain ⟨its, rv, pl, _⟩ := I.list (hs.seq hq)
    obtain ⟨oa, na, ho, _, _, hd⟩ := pl
    have hlt2 : i < its.length := by rw [← rv.length]; exact hlt
    obtain ⟨t, ht, hsay⟩ := hit i xs[i] (List.getElem?_eq_getElem hlt)
    obtain ⟨u, hu, ru⟩ := rv.get (List.getElem?_eq_getElem hlt)
    have hp1 := piled_take_succ ht
    have hp2 := piled_take_le ts (i + 1)
    refine codeAny_builtin PySem.F.entry_list_repr_loop ?_
    show wpAny _ _ (Builtin.«list.__repr__.loop» ⟨[.ref a, .int i 0, .ref P, .int ((base + piled (ts.take i) : Nat) : Int) 0], []⟩) _ _ s
    rw [repr_loop_tree]
    refine wpAny_bind (wpAny_listItems ho hd ?_)
    have some_ : its.toArray[i]? = some u := by simpa using hu
    simp only [Int.toNat_natCast, some_]
    obtain ⟨f0, f1, f2, f3, f4, f5⟩ := id fp
    have Ip : Inv X ((P, { cls := .type "list", dict := none, data := .seq acc c, slots := #[] }) :: pins) σ H1 s := I.pins_of fun p hp => by
      rcases List.mem_cons.mp hp with e | hp
      · rw [e]
        exact ⟨hP, f0, f1, f2, fun v z => by cases z⟩
      · exact I.pin p (List.mem_append_right _ hp)
    refine wpAny_bind (wpAny_holding (wpAny_mono (hsay.und (A.under (loopC a P i (base + piled (ts.take i)))) (loopC a P i (base + piled (ts.take i)) :: g) (base + piled (ts.take i) + 1) _ s σ H1 u (low_loop lo i _)
      (fun b hb => (hcl b hb).cons (a := a) fun e => hna (e ▸ hb)) Ip hs ru (by omega)) (fun r s2 hr => ?_) fun e s2 he => bad e s2 he))
    obtain ⟨er, H2, I2, e2⟩ := hr
    subst er
    obtain ⟨hP2, n2, _⟩ := I2.pin _ (List.mem_append_right _ List.mem_cons_self)
    have I3 : Inv X pins σ H2 s2 := I2.pins_of fun p hp => I2.pin p (List.mem_append_right _ (List.mem_cons_of_mem _ hp))
    refine wpAny_bind (wpAny_mkStr ?_ (small r (List.mem_of_getElem? ht)))
    refine wpAny_bind ?_
    show wpAny _ _ (updateSeq P _) _ _ _
    have hasz : acc.size ≤ sizeLine := by
      have e1 : acc.toList.length = acc.size := by simp
      have e3 : done.length = (ts.take i).length := by rw [← hdone, List.length_map]
      have e4 : (ts.take i).length ≤ i := by rw [List.length_take]; omega
      have e5 : (strValues done).length = done.length := by simp [strValues]
      rw [hacc] at e1; omega
    refine wpAny_updateSeq hP2 rfl (wpAny_pure ⟨PySem.F.quiet_list_repr_loop _, ?_⟩) hasz
    have e1 : ((i : Int) + 1) = ((i + 1 : Nat) : Int) := by omega
    have e3 : base + piled (ts.take i) + (r.length + 2) = base + piled (ts.take (i + 1)) := by omega
    rw [e1, e3]
    have fp2 : FpOk X pins H2 P := ⟨n2, f1, f2, f3, f4, f5⟩
    refine ih (i + 1) _ H2 (acc.push (.str r s2.toks)) _ (done ++ [(r, s2.toks)]) (by omega) hlt ((I3.tok (s2.toks + 1)).turned (t' := s2.toks + 1) (it := P) (fun b o hb e => ?_) n2 f1 f3 f4 f5) (hs.trans e2) fp2 (Heap.get?_update_self _ hP2 rfl) ?_ ?_
    · exact (Heap.get?_update_other _ _ (fun z : P = b => hb z.symm)).trans e
    · simp [hacc, strValues]
    · rw [List.map_append, hdone, List.take_add_one, ht]
      rfl

/-- the body of list.__repr__, of any base -/
theorem lst_body (lo : Low X (n + 1) g A) (hcl : ∀ b ∈ a :: as, Clear g b) (hna : a ∉ as) (hit : ∀ (i : Nat) (x : V), xs[i]? = some x → ∃ t, ts[i]? = some t ∧ Says X n as H x t) (hl : ts.length = xs.length)
    (hsz : base + (listText ts).length ≤ sizeLine) (hq : SqL X.K H a xs) {s : Shared} {H1 : Hp} (I : Inv X pins σ H1 s) (hs : Same H H1) {R : Result → Shared → Prop}
    (fin : ∀ s H2 u, Inv X pins σ H2 s → Same H1 H2 → R (.ok (.ret (.str (listText ts) u))) s) (bad : ∀ e s, X.xe e s → R (.error e) s) :
    wpAny (model X.prog X.w) A.in1 (Builtin.listReprAt base ⟨[.ref a], []⟩) (fun fin s' => match fin with | .done f => R (.ok f) s' | .again c' => c'.quiet = true ∧ codeAny (model X.prog X.w) A c' R s') (fun e s' => R (.error e) s') s := by
  obtain ⟨its, rv, pl, _⟩ := I.list (hs.seq hq)
  obtain ⟨oa, na, ho, hc, _, hd⟩ := id pl
  have hca : Clear g a := hcl a List.mem_cons_self
  cases its with
  | nil =>
    cases rv
    have e : ts = [] := List.length_eq_zero_iff.mp hl
    subst e
    refine wpAny_list_repr_empty ho hd ?_
    have q := fin _ H1 s.toks (I.tok (s.toks + 1)) (Same.refl H1)
    rw [listText_nil] at q
    exact q
  | cons y its =>
    refine wpAny_list_repr_head (A := A.in1) lo.gd (fun v rest kw hm => listSameRef_of_ne (hca _ _ _ _ hm)) ho hd ?_
    refine wpAny_bind (m := newList []) (wpAny_newObj_type ?_)
    refine wpAny_pure ⟨PySem.F.quiet_list_repr_loop _, ?_⟩
    have fp := I.fpOk (H' := H1) (Nat.le_refl _) (I.hok.fresh (Nat.le_refl _))
    have q := lst_turns (P := s.heap.objs.size) (R := R) lo (fun b hb => hcl b (List.mem_cons_of_mem _ hb)) hna (fun i x h => let ⟨t, h1, h2⟩ := hit i x h; ⟨t, h1, h2.grow hs⟩) hl hsz (hs.seq hq) (Nat.ne_of_lt (Heap.lt_size ho)) fin bad
      xs.length 0 { s with heap := s.heap.push { cls := .type "list", dict := none, data := .seq [].toArray } } H1 #[] _ [] rfl (Nat.zero_le _) (I.kept (t' := s.toks) fun b o e => Heap.get?_push_of_some _ e) (Same.refl H1) fp (Heap.get?_push_size _ rfl) rfl rfl
    rw [show base + piled (List.take 0 ts) = base by simp [piled]] at q
    exact q
theorem says_lst (hq : SqL X.K H a xs) (hna : a ∉ as) (hl : ts.length = xs.length) (hit : ∀ (i : Nat) (x : V), xs[i]? = some x → ∃ t, ts[i]? = some t ∧ Says X n as H x t) : Says X (n + 2) (a :: as) H (.ref a) (listText ts) := by
  refine ⟨fun A g base pins s σ H1 u lo cl I hs ru hz => ?_, fun A g pins s σ H1 u lo cl I hs ru hz => ?_⟩
  · cases ru
    obtain ⟨its, rv, ⟨oa, na, ho, hc, _, hd⟩, _⟩ := I.list (hs.seq hq)
    refine wpAny_pyReprUnder_ref (by omega) (wpAny_pyReprObjUnder_twin (twin := "list.__repr__.under") ⟨oa, ho, hc⟩ PySem.F.slot_list_repr.toG rfl lo.rm.units0
      (call_twin_plain PySem.F.plain_list_repr_under PySem.F.entry_list_repr_under PySem.F.check_list_repr_under ⟨oa, ho, hc⟩ PySem.F.slot_list_repr.toG (PySem.F.args_list_repr_1 _) ?_))
    exact lst_body (R := callEnd _ _) (lo.mono (by omega)) cl hna hit hl hz hq I hs (fun s2 H2 tk I2 e2 => ⟨⟨_, _, rfl⟩, _, _, rfl, rfl, H2, I2, e2⟩) fun e s2 he => he
  · cases ru
    obtain ⟨its, rv, ⟨oa, na, ho, hc, _, hd⟩, _⟩ := I.list (hs.seq hq)
    have h1 := lo.rm.units
    refine call_repr_slot (by omega) ⟨oa, ho, hc⟩ PySem.F.slot_list_repr.toG (wpAny_call (codeAny_call_builtin PySem.F.slot_list_repr.plain PySem.F.entry_list_repr (PySem.F.slot_list_repr.check _ _ _ _ _ _ _ _ ⟨oa, ho, hc⟩ (PySem.F.args_list_repr_1 _) ?_)))
    exact lst_body (A := A.in1) (base := 0) (R := callEnd _ _) lo.in1 cl hna hit hl (by omega) hq I hs (fun s2 H2 tk I2 e2 => ⟨_, _, rfl, ⟨_, rfl⟩, H2, I2, e2⟩) fun e s2 he => he
end

/-! ### instances of an own class with an own __repr__ -/
section
variable {X : Cx} {n : Nat} {H : Hp} {a C dx f : Addr} {fs : List (Str × V)} {fd : FuncData} {ps : List Str} {sp : Sp} {CX : CXT} {E : XK} {t : Str} {g : List Code} {A : Around} {pins : List (Addr × Obj)} {σ : L2.St} {s : Shared}
/-- a method of one argument, called from beneath X -/
theorem own_run (F : FnOk X.prog X.w X.K X.mg X.base CX n f fd ps sp) (hb : Binds X.K fd ps []) (hx : Passes CX X E) (lo : Low X n g A) (I : Inv X pins σ H s) {Q : VK} (hsp : sp [.ref a] H Q E) :
    wpAny (model X.prog X.w) A (call (.ref f) [.ref a]) (EP X pins σ Q) X.xe s := by
  have e := I.env0
  have e0 : Env0 X.prog X.w X.K X.mg X.base A X.stack s H := ⟨lo.fr.trans e.frames, e.mod, e.bs, e.bsz, e.funs, e.frf, e.hok, e.bare⟩
  have hl := F.len _ _ _ _ hsp
  have bt := hb s [.ref a] I.kIn (by simpa using hl)
  rw [List.append_nil] at bt
  refine wpAny_call (codeAny_mono (F.run A X.stack s H ⟨[.ref a], []⟩ [.ref a] [.ref a] Q E lo.rm e0 bt (.cons rfl .nil) hsp) fun r s' hq => ?_)
  match r, hq with
  | .error e, hq => exact hx pins σ H s e s' I hq
  | .ok (.ret w), hq => exact I.after hq
theorem own_by {M : Model} {last : Value → List Value → Sem Value} {Q : Option Value → Shared → Prop} {E : Value → Shared → Prop} {K : PySem.W.Frag} {x : Addr} {ox : Obj} {od : Option Obj} {name : Str} (kx : K.In s.heap) (J : PySem.W.InstAt s.heap x ox C od)
    (hs : PySem.W.findIn K (.ref C) name = some (some (.ref f))) (hf : PySem.W.isFn K (.ref f) = true) (h : wpAny M A (last (.ref f) [.ref x]) (fun v => Q (some v)) E s) : wpAny M A (callSpecialIfBoundBy? last (.ref x) name) Q E s := by
  have done : wpAny M A (last (.ref f) [.ref x] >>= fun v => pure (some v)) Q E s := wpAny_bind (wpAny_mono h (fun _ _ q => wpAny_pure q) fun _ _ q => q)
  have bd := PySem.W.bind_fn (M := M) kx (.ref x) (beq_iff_eq.mp hf)
  simp only [callSpecialIfBoundBy?, bindSpecialIfBound?]
  refine wpAny_holding (wpAny_bind (wpAny_bind (wpAny_bind (J.type.here ((PySem.W.looks_findIn kx hs).here (wpAny_bind (wpAny_askSetting (wpAny_ite ?_))))))))
  split
  · exact wpAny_bind (bd.here (wpAny_pure done))
  · exact wpAny_tryCatch (wpAny_bind (bd.here (wpAny_pure done)))
theorem says_own (F : FnOk X.prog X.w X.K X.mg X.base CX n f fd ps sp) (hs : PySem.W.findIn X.K (.ref C) "__repr__" = some (some (.ref f))) (hf : PySem.W.isFn X.K (.ref f) = true) (hb : Binds X.K fd ps []) (hx : Passes CX X E)
    (ha : H a = some (.ins C dx fs)) (hsp : ∀ H1, Same H H1 → sp [.ref a] H1 (fun v H2 => v = .str t ∧ Same H1 H2) E) : Says X (n + 1) [] H (.ref a) t := by
  have turn : ∀ {A : Around} {g : List Code} {pins : List (Addr × Obj)} {s : Shared} {σ : L2.St} {H1 : Hp}, Low X n g A → Inv X pins σ H1 s → Same H H1 →
      wpAny (model X.prog X.w) A (call (.ref f) [.ref a]) (fun r s' => ∃ tk, r = .str t tk ∧ ∃ H2, Inv X pins σ H2 s' ∧ Same H1 H2) X.xe s := fun lo I e =>
    wpAny_mono (own_run F hb hx lo I (hsp _ e)) (fun r s' q => by
      obtain ⟨v, H2, I2, r2, ev, e2⟩ := q
      subst ev
      obtain ⟨tk, rfl⟩ := r2
      exact ⟨tk, rfl, H2, I2, e2⟩) fun _ _ q => q
  refine ⟨fun A g base pins s σ H1 u lo cl I e ru hz => ?_, fun A g pins s σ H1 u lo cl I e ru hz => ?_⟩
  · cases ru
    obtain ⟨mA, O, _⟩ := ins_get I.hok (e _ _ ha)
    obtain ⟨od, J, _⟩ := O.look
    have hu := lo.rm.units0
    refine wpAny_pyReprUnder_ref (by omega) ?_
    unfold pyReprObjUnder pyReprObjBy
    refine wpAny_bind (wpAny_cRoomFor hu (wpAny_bind (wpAny_bind (J.type.here ((PySem.W.looks_findIn I.kIn hs).here ?_)))))
    show wpAny _ _ (if (some (Value.ref f)).isNone = true then _ else _) _ _ _
    rw [if_neg (by simp)]
    refine wpAny_bind (own_by I.kIn J hs hf ?_)
    show wpAny _ _ (call (.ref f) [.ref a]) _ _ _
    refine wpAny_mono (turn (lo.mono (Nat.le_succ n)) I e) (fun r s2 q => ?_) fun _ _ q => q
    obtain ⟨tk, rfl, q⟩ := q
    exact wpAny_bind (wpAny_isInstance (typeIs_str _ _ _) isSubtype_str_str (wpAny_pure ⟨t, tk, rfl, rfl, q⟩))
  · cases ru
    obtain ⟨mA, O, _⟩ := ins_get I.hok (e _ _ ha)
    obtain ⟨od, J, _⟩ := O.look
    obtain ⟨m, hF⟩ := I.fr
    refine PySem.W.repr_K lo.in1.rm.units0 hF I.ok.mod.kin J hs hf (wpAny_mono (turn lo.in1 I e) (fun r s2 q => ?_) fun _ _ q => q)
    obtain ⟨tk, rfl, q⟩ := q
    exact ⟨⟨tk, rfl⟩, q⟩
end

/-! ### repr(x) in a body whose guards are known to be none -/
section
variable {X : Cx}
def rRepr (X : Cx) (n : Nat) : List V → Hp → VK → Prop := fun vs H Q => ∃ (v : V) (t : Str) (as : List Addr), vs = [v] ∧ Says X n as H v t ∧ t.length ≤ sizeLine ∧ ∀ H2, Same H H2 → Q (.str t) H2
theorem cr_repr {n : Nat} (hr : Room n X.A) (hg : X.A.guards = some []) : CallR X (.builtin "repr") (rRepr X n) := by
  intro pins s σ H vs us Q I r h
  obtain ⟨v, t, as, rfl, hv, hz, q⟩ := h
  obtain ⟨u, rfl, ru⟩ := vals1 r
  refine wpAny_mono (hv.top X.A [] pins s σ H u ⟨hr, rfl, hg⟩ (fun b _ => Clear.nil b) I (Same.refl H) ru hz) (fun w s2 k => ?_) fun _ _ k => k
  obtain ⟨⟨tk, rfl⟩, H2, I2, e2⟩ := k
  exact ⟨.str t, H2, I2, ⟨tk, rfl⟩, q H2 e2⟩
/-- repr(True), repr(False): whatever guards run -/
theorem cr_reprB : CallR X (.builtin "repr") (fun vs H Q => ∃ b : Bool, vs = [.bl b] ∧ Q (.str (if b then "True" else "False" : String)) H) := by
  intro pins s σ H vs us Q I r h
  obtain ⟨b, rfl, q⟩ := h
  obtain ⟨u, rfl, ru⟩ := vals1 r
  cases ru
  refine PySem.P.repr_of_bool ⟨.str (if b then "True" else "False" : String), H, I.tok _, ⟨s.toks, ?_⟩, q⟩
  cases b <;> rfl
end
end Rp
/-! defs that know that no guard runs around them, and the law's end for such a def -/
namespace Rp
open PySem PySem.Spec PyProof.Rows L2
/-- the promise of a def, where no guard runs around the call -/
structure FnG (P : Program) (w : World) (K : PySem.W.Frag) (mg : Str → Option Value) (base : Heap) (CX : CXT) (k : Nat) (f : Addr) (fd : FuncData) (ps : List Str) (sp : Sp) : Prop where
  len : ∀ vs H Q E, sp vs H Q E → vs.length = ps.length
  go : ∀ (A : Around) (outer : List Env) (s : Shared) (H : Hp) (args : Args) (us : List Value) (vs : List V) (Q : VK) (E : XK), A.guards = some [] → Room k A →
    Env0 P w K mg base A outer s H → BindsTo s fd args (ps.zip us) → Vals vs us → sp vs H Q E → codeAny (model P w) A (.call (.ref f) args) (CR CX outer P w H s Q E) s
section
variable {P : Program} {w : World} {K : PySem.W.Frag} {mg : Str → Option Value} {base : Heap} {CX : CXT} {k : Nat} {f : Addr} {fd : FuncData} {ps : List Str} {sp : Sp}
theorem FnG.of (F : FnOk P w K mg base CX k f fd ps sp) : FnG P w K mg base CX k f fd ps sp := ⟨F.len, fun A outer s H args us vs Q E _ => F.run A outer s H args us vs Q E⟩
/-- a def by its body; the body may use that no guard runs -/
theorem fn_bodyG {name qual : Str} {params : Arguments} {body : List Stmt} {scope : Scope} {dV kV doc pm cdv ct oc : Value} {an od : Option Addr} {osl : Array (Option Value)} {N : List Str}
    (lk : K.lookup f = some ⟨oc, od, .func (PySem.W.fnOf name qual params body scope dV kV doc pm an cdv ct), osl⟩) (hcd : PySem.W.codeIn K cdv qual = true) (S : FnScope N ps scope) (len : ∀ vs H Q E, sp vs H Q E → vs.length = ps.length)
    (hbody : ∀ (A : Around) (outer : List Env) (s : Shared) (H : Hp) (vs : List V) (Q : VK) (E : XK), A.guards = some [] → Room k (A.deeper (envOfC qual scope s.heap.objs.size f cdv)) → sp vs H Q E →
      ∃ t, PSs (cxOf CX P w K mg base N qual scope f cdv A outer s H E) body t ∧ t { nx := fun _ H' => Q .non H', rt := Q } (start N vs) H) :
    FnG P w K mg base CX (k + 1) f (PySem.W.fnOf name qual params body scope dV kV doc pm an cdv ct) ps sp := by
  refine ⟨len, fun A outer s H args us vs Q E gd hr e0 hb rv hsp => ?_⟩
  have here : ∀ b o, base.get? b = some o → s.heap.get? b = some o := fun b o e => (e0.bs b o e).1
  have kx : K.In s.heap := e0.mod.kin.keeps here
  have lim : s.heap.NoLimit := e0.mod.nolimit.keeps here
  have kinds : ∀ y ∈ ps.zip us, scope.names.lookup y.1 = some .local ∨ (scope.names.lookup y.1 = some .cell ∧ ((cellsFrom (s.heap.objs.size + 1) scope.names []).lookup y.1).isSome = true) := by
    rintro ⟨n, v⟩ hy
    exact (S.par n (List.of_mem_zip hy).1).imp id fun q => ⟨q, PySem.W.cellsFrom_some _ _ _ (.inl q)⟩
  refine codeAny_call_function hr.depth (kx _ _ lk) rfl S.co S.gen rfl (PySem.W.codeRec_of kx hcd) (hb _ _ _ _ (wpAny_newFunctionEnv_cells S.kind kinds fun env he s1 ic => ?_))
  subst he
  refine ⟨lim.keeps ic.toInCall.keep, codeAny_func ?_⟩
  obtain ⟨t, ht, hq⟩ := hbody A outer s H vs Q E gd (hr.deeper _) hsp
  have I : L2.Inv (cxOf CX P w K mg base N qual scope f cdv A outer s H E) [] (start N vs) H s1 := inv_start S hr.hd e0 (len _ _ _ _ hsp) rv ic
  refine wpAny_mono (ht.run [] s1 (start N vs) H _ I hq) (fun fl s' hs => ?_) fun e s' hs => hs
  cases fl with
  | next =>
    obtain ⟨σ', H', J, q⟩ := hs
    exact ⟨V.non, H', J.os, J.bare, J.base, J.hok, (rfl : RelV .non Value.none), q⟩
  | ret u =>
    obtain ⟨v, σ', H', J, rv, q⟩ := hs
    exact ⟨v, H', J.os, J.bare, J.base, J.hok, rv, q⟩
  | brk => exact hs.elim fun _ z => z.elim fun _ z => z.2.elim
  | cont => exact hs.elim fun _ z => z.elim fun _ z => z.2.elim
theorem Fun_okG {x qual : Str} {st : Stmt} {N : List Str} (F : Fun K x qual st f fd) (S : FnScope N ps (defScope st)) (len : ∀ vs H Q E, sp vs H Q E → vs.length = ps.length)
    (body : ∀ (cdv : Value) (A : Around) (outer : List Env) (s : Shared) (H : Hp) (vs : List V) (Q : VK) (E : XK), A.guards = some [] →
      Room k (A.deeper (envOfC qual (defScope st) s.heap.objs.size f cdv)) → sp vs H Q E →
      ∃ t, PSs (cxOf CX P w K mg base N qual (defScope st) f cdv A outer s H E) (defBody st) t ∧ t { nx := fun _ H' => Q .non H', rt := Q } (start N vs) H) : FnG P w K mg base CX (k + 1) f fd ps sp := by
  obtain ⟨oc, od, kV, doc, pm, an, cdv, ct, osl, rfl, lk, hcd⟩ := F.ex
  exact fn_bodyG lk hcd S len fun A outer s H vs Q E gd hr hsp => body cdv A outer s H vs Q E gd hr hsp
theorem Fun_okG0 {x qual : Str} {st : Stmt} {N : List Str} (F : Fun K x qual st f fd) (S : FnScope N ps (defScope st)) (len : ∀ vs H Q E, sp vs H Q E → vs.length = ps.length)
    (body : ∀ (cdv : Value) (A : Around) (outer : List Env) (s : Shared) (H : Hp) (vs : List V) (Q : VK) (E : XK), A.guards = some [] →
      Room k (A.deeper (envOfC qual (defScope st) s.heap.objs.size f cdv)) → sp vs H Q E →
      ∃ t, PSs (cxOf CX0 P w K mg base N qual (defScope st) f cdv A outer s H E).nox (defBody st) t ∧ t { nx := fun _ H' => Q .non H', rt := Q } (start N vs) H) : FnG P w K mg base CX0 (k + 1) f fd ps sp :=
  Fun_okG F S len fun cdv A outer s H vs Q E gd hr hsp => let ⟨t, h, q⟩ := body cdv A outer s H vs Q E gd hr hsp; ⟨t, h.nox, q⟩
end

/-! ### the call of such a def -/
section
variable {X : Cx} {CX : CXT} {k : Nat} {f : Addr} {fd : FuncData} {ps : List Str} {sp : Sp} {dvs : List V} {ds : List Value} {E : XK} {x : Str} {p pos : Pos} {e : Expr} {es : List Expr} {t : TA}
theorem run_fnG {pins : List (Addr × Obj)} {σ : L2.St} {H : Hp} {s : Shared} {Q : VK} {us : List Value} {vs : List V} (F : FnG X.prog X.w X.K X.mg X.base CX k f fd ps sp) (hg : X.A.guards = some []) (hr : Room k X.A) (hb : Binds X.K fd ps ds) (hd : Vals dvs ds)
    (hx : Passes CX X E) (I : Inv X pins σ H s) (r : Vals vs us) (h : sp (vs ++ dvs) H Q E) : wpAny (model X.prog X.w) X.A (call (.ref f) us) (EP X pins σ Q) X.xe s := by
  have all := r.append hd
  have hl := all.length.symm.trans (F.len _ _ _ _ h)
  refine wpAny_call (codeAny_mono (F.go X.A X.stack s H ⟨us, []⟩ (us ++ ds) (vs ++ dvs) Q E hg hr I.env0 (hb s us I.kIn hl) all h) fun r s' hq => ?_)
  match r, hq with
  | .error e, hq => exact hx pins σ H s e s' I hq
  | .ok (.ret u), hq => exact I.after hq
theorem pe_callG (F : FnG X.prog X.w X.K X.mg X.base CX k f fd ps sp) (hgd : X.A.guards = some []) (hr : Room k X.A) (hg : Gl X x) (hm : X.mg x = some (.ref f)) (hk : PySem.W.keepIn X.K (.ref f) = true) (hb : Binds X.K fd ps ds) (hd : Vals dvs ds) (hx : Passes CX X E)
    (ha : PA X (e :: es) t) (hdb : (x == ("__debug__" : Str)) = false := by decide) (he : starEach (e :: es) X.env = (false, eval e X.env) :: starEach es X.env := by rfl) (hpl : (backTo pos (starEach es X.env)).any (·.1) = false := by rfl) :
    PE X (.Call (.Name x p) (e :: es) [] pos) (tCall sp dvs E t) :=
  ⟨fun pins s σ H Q I h => wpAny_Call_Name_kw (ld_glob I hg hm (PySem.W.callWith_K (h₀ := X.base) I.ok.mod.kin hk (thn (ha.run pos pins s σ H _ I h) fun us s1 ⟨vs, H1, I1, r, q⟩ => ⟨I1.kIn, run_fnG F hgd hr hb hd hx I1 r q⟩) he hpl) hdb)⟩
end

/-! ### the law's end -/
/-- what stands tracked at the law's entry: the script alone, or nothing -/
def atScript (a : Addr) (u : HO) : Hp := fun b => if b = a then some u else none
theorem law_atG {P : Program} {w : World} {K : PySem.W.Frag} {mg mb : Str → Option Value} {CX : CXT} {k : Nat} {fa a : Addr} {fd : FuncData} {x : Str} {sp : Sp} {s₁ : Shared} {vs : List Value} {ns : List Int}
    (KX : K.In s₁.heap) (hns : s₁.heap.Ns mainGlobals mg) (hb : s₁.heap.Ns builtinsNs mb) (hbb : ∀ x : Str, x ≠ "__name__" → mb x = bootBuiltins x) (hlim : s₁.heap.NoLimit) (hg : s₁.gens = #[])
    (ha : s₁.heap.get? a = some { cls := .type "list", data := .seq vs.toArray }) (hr : Room k callerA)
    (F : ∀ base : Heap, K.In base → base.Ns mainGlobals mg → FnG P w K mg base CX k fa fd [x] sp) (hbind : ∀ (s : Shared) (u : Value), BindsTo s fd ⟨[u], []⟩ [(x, u)])
    (hCX : ∀ H e s', CX [] H s₁ (fun _ _ _ => False) e s' → False) (H : Hp) (hA : ∀ b, H b ≠ none → b = a) (hF : ∀ u, H a = some u → ∃ o xs, u = .frz o (.lst xs)) (hok : HOk P w H s₁.heap) (hK : H a ≠ none → K.lookup a = none)
    (hsp : sp [.ref a] H (fun v _ => v = .bl true) fun _ _ _ => False) :
    codeAny (model P w) callerA (.call (.ref fa) ⟨[.ref a], []⟩) (fun r s' => r = .ok (.ret (.bool true)) ∧ OldK s₁.heap s'.heap ∧ s'.os = s₁.os ∧ AllBare s'.gens) s₁ := by
  have split : ∀ b u, H b = some u → b = a := fun b u e => hA b fun z => by rw [z] at e; cases e
  have dictless : ∀ {b : Addr} {o : Obj} {es : Array DictEntry} {ep : Nat}, s₁.heap.get? b = some o → o.data = .dict es ep → H b = none := fun {b o es ep} e d => by
    cases q : H b with
    | none => rfl
    | some u =>
      have z := split b u q
      subst z
      rw [ha] at e
      cases e
      cases (show Data.seq vs.toArray _ = Data.dict es ep from d)
  have names : ∀ {b : Addr} {m : Str → Option Value}, s₁.heap.Ns b m → (hidT s₁.heap H).Ns b m := fun {b m} h => by
    obtain ⟨o, es, ep, e, d, r⟩ := h
    exact ⟨o, es, ep, hidT_get e (dictless e d), d, r⟩
  have kb : K.In (hidT s₁.heap H) := fun b o e => hidT_get (KX b o e) (by
    cases q : H b with
    | none => rfl
    | some u =>
      have z := split b u q
      subst z
      rw [hK fun z => by rw [q] at z; cases z] at e
      cases e)
  have M : Mod K mg (hidT s₁.heap H) := by
    obtain ⟨mc, h1, h2⟩ := hlim
    exact ⟨kb, names hns, ⟨mb, names hb, hbb⟩, ⟨mc, names h1, h2⟩⟩
  have e0 : Env0 P w K mg (hidT s₁.heap H) callerA [] s₁ H :=
    { frames := rfl, mod := M, bs := fun b o e => of_hidT e, bsz := Nat.le_of_eq (hidT_size _ _), funs := trivial, frf := fun b hb => (by simp [frs] at hb), hok := hok, bare := .of_eq hg }
  refine codeAny_mono ((F _ kb (names hns)).go callerA [] s₁ H ⟨[.ref a], []⟩ [.ref a] [.ref a] _ _ rfl hr e0 (hbind s₁ (.ref a)) (.cons rfl .nil) hsp) fun r s' h => ?_
  match r, h with
  | .error e, h => exact (hCX H e s' h).elim
  | .ok (.ret u), ⟨v, H', os, bare, un, hok', rv, q⟩ =>
    have ev : v = .bl true := q
    subst ev
    have eu : u = Value.bool true := rv
    subst eu
    refine ⟨rfl, OldK.of_keep fun b o e => ?_, os, bare⟩
    cases z : H b with
    | none => exact un.keep b o e z (by simp [frs]) (by simp)
    | some u =>
      have eb := split b u z
      subst eb
      obtain ⟨ob, xs, eu⟩ := hF u z
      subst eu
      obtain ⟨e1, _⟩ := hok b _ z
      obtain ⟨e2, _⟩ := hok' b _ (un.frzs b ob _ z)
      rw [e] at e1
      cases e1
      exact e2
theorem law_callG {P : Program} {w : World} {K : PySem.W.Frag} {mg mb : Str → Option Value} {CX : CXT} {k : Nat} {fa a : Addr} {fd : FuncData} {x : Str} {sp : Sp} {s₁ : Shared} {vs : List Value} {ns : List Int}
    (KX : K.In s₁.heap) (hns : s₁.heap.Ns mainGlobals mg) (hb : s₁.heap.Ns builtinsNs mb) (hbb : ∀ x : Str, x ≠ "__name__" → mb x = bootBuiltins x) (hlim : s₁.heap.NoLimit) (hg : s₁.gens = #[])
    (ha : s₁.heap.get? a = some { cls := .type "list", data := .seq vs.toArray }) (hi : IntsAre vs ns) (hl : ns.length ≤ sizeLine) (hr : Room k callerA)
    (F : ∀ base : Heap, K.In base → base.Ns mainGlobals mg → FnG P w K mg base CX k fa fd [x] sp) (hbind : ∀ (s : Shared) (u : Value), BindsTo s fd ⟨[u], []⟩ [(x, u)])
    (hsp : ∀ H : Hp, Only H → SqL K H a (ns.map V.int) → sp [.ref a] H (fun v _ => v = .bl true) fun _ _ _ => False)
    (hCX : ∀ H e s', CX [] H s₁ (fun _ _ _ => False) e s' → False) :
    codeAny (model P w) callerA (.call (.ref fa) ⟨[.ref a], []⟩) (fun r s' => r = .ok (.ret (.bool true)) ∧ OldK s₁.heap s'.heap ∧ s'.os = s₁.os ∧ AllBare s'.gens) s₁ := by
  have rv := vals_ints hi
  have lenV := hi.length
  have main := law_atG (ns := ns) KX hns hb hbb hlim hg ha hr F hbind hCX
  cases hk : K.lookup a with
  | some o =>
    have e := KX a o hk
    rw [ha] at e
    cases e
    have nothing : Only fun _ => none := fun b => .inl rfl
    exact main (fun _ => none) (fun b z => absurd rfl z) (fun u z => by cases z) (fun b u z => by cases z) (fun z => absurd rfl z)
      (hsp _ nothing (.inr ⟨_, vs.toArray, _, hk, rfl, rfl, rfl, by rw [List.size_toArray, lenV]; exact hl, by simpa using rv⟩))
  | none =>
    have at_ : atScript a (.frz { cls := .type "list", data := .seq vs.toArray } (.lst (ns.map V.int))) a = some (.frz { cls := .type "list", data := .seq vs.toArray } (.lst (ns.map V.int))) := if_pos rfl
    have off : ∀ b, b ≠ a → atScript a (.frz { cls := .type "list", data := .seq vs.toArray } (.lst (ns.map V.int))) b = none := fun b hb => if_neg hb
    refine main (atScript a (.frz { cls := .type "list", data := .seq vs.toArray } (.lst (ns.map V.int)))) (fun b z => Classical.byContradiction fun hb => z (off b hb)) (fun u z => ?_) (fun b u z => ?_) (fun _ => hk)
      (hsp _ (fun b => ?_) (.inl (.inr ⟨_, at_⟩)))
    · rw [at_] at z
      cases z
      exact ⟨_, _, rfl⟩
    · by_cases hb : b = a
      · subst hb
        rw [at_] at z
        cases z
        exact ⟨ha, by rw [List.length_map]; exact hl, vs, _, rv, ha⟩
      · rw [off b hb] at z
        cases z
    · by_cases hb : b = a
      · subst hb
        exact .inr ⟨_, _, at_⟩
      · exact .inl (off b hb)
/-- the goal that k_head leaves, from the law's promise where no guard runs -/
theorem walk_ofG {l : PySem.W.OpenLaw} {n k : Nat} {q : Program} {loose : List Str} {XP : (Str → Option Value) → Heap → Prop} {YP : World → Heap → Prop} {d : DefRec} {K : Params → PySem.W.Frag} {CX : World → CXT} {sp : World → Sp} {x : Str}
    (hn : l.most = some n) (hn2 : n ≤ sizeLine) (hdf : d.params.defaults = []) (hr : Room k callerA) (hY : ∀ (w : World) (h : Heap), YP w h → (K w.params).In h)
    (F : ∀ (w : World) (mg : Str → Option Value) (fa : Addr) (h : Heap), (K w.params).In h → h.Ns mainGlobals mg → mg d.name = some (.ref fa) →
      ∃ fd : FuncData, (∀ (s : Shared) (u : Value), BindsTo s fd ⟨[u], []⟩ [(x, u)]) ∧ ∀ base : Heap, (K w.params).In base → base.Ns mainGlobals mg → FnG l.prog w (K w.params) mg base (CX w) k fa fd [x] (sp w))
    (hsp : ∀ (w : World) (H : Hp) (a : Addr) (ns : List Int), ns.length ≤ n → Only H → SqL (K w.params) H a (ns.map V.int) → sp w [.ref a] H (fun v _ => v = .bl true) fun _ _ _ => False)
    (hCX : ∀ (w : World) (H : Hp) (s : Shared) (e : Value) (s' : Shared), CX w [] H s (fun _ _ _ => False) e s' → False) :
    PySem.W.WalkO q loose XP YP l.row.toRowW d [] (fun f vs => PySem.call f vs) :=
  Att.attach_call hn hdf fun w s₀ s₁ mg mb fa o pm cd doc a vs ns G Y ho hd hcd hmg hobj hints hlen hg =>
    let ⟨_, hb, hF⟩ := F w mg fa _ (hY w _ Y) G.T.g hmg
    law_callG (hY w _ Y) G.T.g G.T.b G.T.builtins G.T.nolimit hg hobj hints (Nat.le_trans hlen hn2) hr hF hb (fun H hO hS => hsp w H a ns hlen hO hS) fun H e s' => hCX w H s₁ e s'
end Rp
/-! sep.join(reversed(xs)), xs a list of texts -/
namespace Rp
open PySem PySem.Spec PyProof.Rows L2
section
variable {prog : Program} {w : World} {A : Around} {E : Value → Shared → Prop} {s : Shared} {x : Str} {t : Tok} {Q : Value → Shared → Prop}
theorem join_rev {it l : Addr} {items : Array Value} {ys : List Str} (hh : A.handled = none) (hit : s.heap.IsRevIter it l ((items.size : Int) - 1)) (hl : s.heap.IsList l items) (hne : l ≠ it) (hn : items.size ≤ sizeLine)
    (hi : StrsAre items.toList.reverse ys) (hok : (ys.map (·.length)).sum + ys.length * x.length ≤ 16777216)
    (h : ∀ (h' : Heap) (t' k : Tok), (∀ b o, b ≠ it → s.heap.get? b = some o → h'.get? b = some o) → Q (.str (Txt.join x ys) t') { s with heap := h', toks := k }) :
    wpAny (model prog w) A (call (.builtin "str.join") [.str x t, .ref it]) Q E s := by
  refine wpAny_call (codeAny_call_builtin F.slot_str_join.plain F.entry_str_join (F.slot_str_join.check _ _ _ _ _ _ _ _ (typeIs_str _ _ _) (F.args_str_join_2 _ _) ?_))
  have hT : s.TypeIs (.ref it) "list_reverseiterator" := Heap.IsRevIter.typeIs hit
  have hh1 : A.in1.handled = none := hh
  rw [join_tree_other]
  refine wpAny_bind (wpAny_typeOf hT ?_)
  show wpAny _ A.in1 ((pyIter (.ref it)).tryCatch _ >>= fun j => collect j >>= fun vs => joinTail x vs) _ _ s
  refine wpAny_bind (wpAny_tryCatch (wpAny_pyIter_revIter hit (wpAny_bind (RT.collect_rev (A := A.in1) hh1 hit hl hne hn fun h' tk acc hk hacc => ?_))))
  have el : acc.toList = items.toList.reverse := by
    have hs : items.size = items.toList.length := by simp
    have ha : acc.toList.length = items.toList.length := by rw [Array.length_toList, hacc.1, hs]
    refine List.ext_getElem? fun j => ?_
    by_cases hj : j < items.toList.length
    · have hja : j < acc.toList.length := by omega
      have e1 : acc.toList[j]? = some acc.toList[j] := List.getElem?_eq_getElem hja
      have e2 := hacc.2 j acc.toList[j] (by rw [← Array.getElem?_toList]; exact e1)
      rw [e1, List.getElem?_reverse hj, ← e2, hs] <;> simp
    · rw [List.getElem?_eq_none (by omega), List.getElem?_eq_none (by rw [List.length_reverse]; omega)]
  rw [el]
  obtain ⟨q, hv, ht⟩ := strsAre_values hi
  rw [hv]
  subst ht
  have ok := joinOk_of hok
  have ok' := ok
  unfold JoinOk at ok'
  rw [Bool.not_eq_true'] at ok'
  have g : Gives (joinTail x (strValues q)) (joinMade x q) := by
    have g0 := gives_joinTail x q ok'
    rcases q with _ | ⟨c, _ | ⟨d, r⟩⟩ <;> exact g0
  exact g prog w A (wants Q E) { s with heap := h', toks := tk } (post_join q ⟨joinFit_length ok', fun t' k => h h' t' k hk⟩)
end

section
variable {X : Cx} {o e : Expr} {to te : TE} {p2 apos pos pos2 : Pos}
/-- o.join(reversed(e)) -/
def tJoinRev (K : PySem.W.Frag) (to te : TE) : TE := fun σ H Q => to σ H fun v H1 => ∃ sep : Str, v = .str sep ∧ te σ H1 fun u H2 => ∃ (a : Addr) (ys : List Str), u = .ref a ∧ SqL K H2 a (ys.map V.str) ∧
  (ys.map (·.length)).sum + ys.length * sep.length ≤ 16777216 ∧ Q (.str (Txt.join sep ys.reverse)) H2
theorem pe_joinRev (hc : X.calm = true) (hg : Gl X "reversed") (hm : X.mg "reversed" = none) (ho : PE X o to) (he : PE X e te)
    (hs : starEach [e] X.env = (false, eval e X.env) :: starEach [] X.env := by rfl)
    (hs2 : starEach [.Call (.Name "reversed" p2) [e] [] pos2] X.env = [(false, eval (.Call (.Name "reversed" p2) [e] [] pos2) X.env)] := by rfl)
    (hbase : attributeBase o "join" X.env (eval o X.env) = eval o X.env := by rfl) (hline : (apos.endLine == pos.line) = true := by rfl) :
    PE X (.Call (.Attribute o "join" apos) [.Call (.Name "reversed" p2) [e] [] pos2] [] pos) (tJoinRev X.K to te) := by
  refine ⟨fun pins s σ H Q I h => ?_⟩
  refine PySem.Call_method1 hbase hs2 hline (thn (ho.run pins s σ H _ I h) fun v s1 k => ?_)
  obtain ⟨xv, H1, I1, r1, sep, rfl, q1⟩ := k
  obtain ⟨t, rfl⟩ := r1
  refine ⟨"str", _, F.plainAttrs_str, F.slot_str_join, F.type_str_join, typeIs_str _ _ _, (fun _ e => nomatch e), Calls.callWith_builtin rfl (Calls.evalArgs_plain (Calls.spliced_cons ?_))⟩
  refine Call_ (ld_blt I1 hg hm PyProof.Rows.boot_reversed (PyProof.Rows.callWith_type1 (args_cons (thn (he.run pins s1 σ H1 _ I1 q1) fun u s2 k => args_nil ?_) hs) hs rfl))
  obtain ⟨yv, H2, I2, r2, a, ys, rfl, hq, hz, q2⟩ := k
  obtain rfl : u = Value.ref a := r2
  obtain ⟨its, rv, pl, hsz⟩ := I2.list hq
  refine call_reversed_list pl.isList (Calls.spliced_nil ?_)
  have hl := pl.isList
  obtain ⟨ol, hol, _⟩ := id hl
  have grow : ∀ b o, s2.heap.get? b = some o → (s2.heap.push (revObj a ((its.toArray.size : Int) - 1))).get? b = some o := fun b o e => Heap.get?_push_of_some _ e
  have I3 : L2.Inv X pins σ H2 { s2 with heap := s2.heap.push (revObj a ((its.toArray.size : Int) - 1)) } := I2.kept (t' := s2.toks) grow
  obtain ⟨f0, f1, f2, f3, f4, f5⟩ := I2.fpOk (H' := H2) (b := s2.heap.objs.size) (Nat.le_refl _) (I2.hok.fresh (Nat.le_refl _))
  have st := strs_of_vals (us := its.reverse) (ys := ys.reverse) (by rw [List.map_reverse]; exact rv.reverse)
  refine join_rev (s := { s2 with heap := s2.heap.push (revObj a ((its.toArray.size : Int) - 1)) }) (items := its.toArray) (I1.ok.hd hc) ⟨_, Heap.get?_push_size _ rfl, rfl, rfl⟩ (hl.push _) (Nat.ne_of_lt (Heap.lt_size hol)) (by rw [List.size_toArray, ← rv.length]; exact hsz)
    (by simpa using st) (by simpa [List.sum_reverse] using hz) fun h' t' k hk => ?_
  exact ⟨.str _, H2, I3.turned (t' := k) (fun b o hb e => hk b o hb e) f0 f1 f3 f4 f5, ⟨t', rfl⟩, q2⟩
end
end Rp
/-! repr of tuples, by the abstract heap -/
namespace Rp
open PySem PySem.Spec PyProof.Rows L2
section
variable {X : Cx} {n : Nat} {as : List Addr} {H : Hp} {a : Addr} {xs : List V} {ts : List Str} {base : Nat} {g : List Code} {A : Around} {pins : List (Addr × Obj)} {σ : L2.St}
theorem tup_fold (lo : Low X n g A) (hcl : ∀ b ∈ as, Clear g b) {Q : (Array Str × Nat) → Shared → Prop} : ∀ (xs : List V) (us : List Value) (ts : List Str) (acc : Array Str) (m : Nat) (s : Shared) (H1 : Hp), Vals xs us → ts.length = xs.length →
    (∀ (i : Nat) (x : V), xs[i]? = some x → ∃ t, ts[i]? = some t ∧ Says X n as H x t) → m + piled ts ≤ sizeLine → Inv X pins σ H1 s → Same H H1 →
    (∀ s2 H2, Inv X pins σ H2 s2 → Same H1 H2 → Q ⟨acc ++ ts.toArray, m + piled ts⟩ s2) → wpAny (model X.prog X.w) A (forIn us (⟨acc, m⟩ : (Array Str × Nat)) tupBody) Q X.xe s := by
  intro xs
  induction xs with
  | nil =>
    intro us ts acc m s H1 rv hl _ _ I e h
    cases rv
    have : ts = [] := List.length_eq_zero_iff.mp hl
    subst this
    have q := h s H1 I (Same.refl H1)
    rw [List.forIn_nil]
    exact wpAny_pure (by simpa [piled] using q)
  | cons x xs ih =>
    intro us ts acc m s H1 rv hl hs hz I e h
    cases rv with
    | cons r1 r2 =>
      rename_i u us
      match ts, hl, hs, hz, h with
      | t :: ts, hl, hs, hz, h =>
        obtain ⟨t', ht, hsay⟩ := hs 0 x rfl
        cases ht
        rw [piled_cons] at hz
        rw [List.forIn_cons]
        refine wpAny_bind (wpAny_bind (wpAny_mono (hsay.und A g (m + 1) pins s σ H1 u lo hcl I e r1 (by omega)) (fun r s2 k => ?_) fun _ _ k => k))
        obtain ⟨er, H2, I2, e2⟩ := k
        subst er
        refine wpAny_pure (ih us ts (acc.push r) (m + (r.length + 2)) s2 H2 r2 (by simpa using hl) (fun i y hy => hs (i + 1) y hy) (by omega) I2 (e.trans e2) fun s3 H3 I3 e3 => ?_)
        have q := h s3 H3 I3 (e2.trans e3)
        have eq : m + piled (r :: ts) = m + (r.length + 2) + piled ts := by rw [piled_cons]; omega
        rw [eq] at q
        simpa using q
theorem tup_body {id : String} {rest : List Value} (lo : Low X (n + 1) g A) (hcl : ∀ b ∈ a :: as, Clear g b) (hna : a ∉ as) (hit : ∀ (i : Nat) (x : V), xs[i]? = some x → ∃ t, ts[i]? = some t ∧ Says X n as H x t) (hl : ts.length = xs.length)
    (hsz : base + (tupleText ts).length ≤ sizeLine) (hq : SqT X.K H a xs) {s : Shared} {H1 : Hp} (I : Inv X pins σ H1 s) (hs : Same H H1) {R : Result → Shared → Prop}
    (hg : (Code.builtin id ⟨.ref a :: rest, []⟩).guards = [Code.builtin id ⟨.ref a :: rest, []⟩]) (hw : (Code.builtin id ⟨.ref a :: rest, []⟩).weight = 1) (hu : (Code.builtin id ⟨.ref a :: rest, []⟩).cUnits = 1) (he : (Code.builtin id ⟨.ref a :: rest, []⟩).envs = [])
    (fin : ∀ s H2 u, Inv X pins σ H2 s → Same H1 H2 → R (.ok (.ret (.str (tupleText ts) u))) s) (bad : ∀ e s, X.xe e s → R (.error e) s) :
    wpOwn (model X.prog X.w) A (.builtin id ⟨.ref a :: rest, []⟩) (Builtin.tupleReprAt base ⟨[.ref a], []⟩) (fun fin s' => match fin with | .done f => R (.ok f) s' | .again c' => c'.quiet = true ∧ codeAny (model X.prog X.w) A c' R s') (fun e s' => R (.error e) s') s := by
  have hsq : SqT X.K H1 a xs := hq.elim (fun h => .inl (h.elim (fun h => .inl (hs _ _ h)) fun ⟨o, h⟩ => .inr ⟨o, hs _ _ h⟩)) .inr
  obtain ⟨its, rv, ⟨o, ho, hc, na, hd⟩, _⟩ := I.tuple hsq
  have hp := piled_le_tupleText ts
  have hsz0 : (tupleText ts).length ≤ sizeLine := by omega
  have hlen : ts.length = its.toArray.size := by rw [hl, rv.length]; simp
  rw [tuple_repr_tree, tupleReprUnderWay_eq]
  refine wpOwn_bind (wpOwn_stackTailAny lo.gd (tupGuardF_off _) (tupGuardF_pos _) ?_)
  rw [show (g.any fun c => tupGuardF (.ref a) (c, default)) = false from List.any_eq_false.mpr fun c hc => by
    rw [tupGuardF_of_clear (hcl a List.mem_cons_self) c hc]
    exact Bool.false_ne_true]
  refine wpOwn_of_wpAny ?_
  show wpAny _ _ (tupleReprRest base (.ref a)) _ _ s
  unfold tupleReprRest Builtin.Tuple.tupleItemsOf
  refine wpAny_bind (wpAny_bind (wpAny_seqItems ho hd (wpAny_pure ?_)))
  rw [← Array.forIn_toList]
  refine wpAny_bind (wpAny_mono (tup_fold (lo.guard hg hw hu he) (fun b hb => (hcl b (List.mem_cons_of_mem _ hb)).cons (a := a) fun e => hna (e ▸ hb)) xs its ts #[] base s H1 rv hl hit (by omega) I hs
    (Q := fun r s2 => r = ⟨#[] ++ ts.toArray, base + piled ts⟩ ∧ ∃ H2, Inv X pins σ H2 s2 ∧ Same H1 H2) fun s2 H2 I2 e2 => ⟨rfl, H2, I2, e2⟩) (fun r s2 k => ?_) fun e s2 k => bad e s2 k)
  obtain ⟨er, H2, I2, e2⟩ := k
  subst er
  refine wpAny_bind (wpAny_mkStr (wpAny_pure ?_) (by simpa [tupleText, hlen] using hsz0))
  have h1 := fin _ H2 s2.toks (I2.tok (s2.toks + 1)) e2
  simpa [tupleText, hlen] using h1
theorem says_tup (hq : SqT X.K H a xs) (hna : a ∉ as) (hl : ts.length = xs.length) (hit : ∀ (i : Nat) (x : V), xs[i]? = some x → ∃ t, ts[i]? = some t ∧ Says X n as H x t) : Says X (n + 2) (a :: as) H (.ref a) (tupleText ts) := by
  refine ⟨fun A g base pins s σ H1 u lo cl I hs ru hz => ?_, fun A g pins s σ H1 u lo cl I hs ru hz => ?_⟩
  all_goals
    cases ru
    have hsq : SqT X.K H1 a xs := hq.elim (fun h => .inl (h.elim (fun h => .inl (hs _ _ h)) fun ⟨o, h⟩ => .inr ⟨o, hs _ _ h⟩)) .inr
    obtain ⟨its, rv, ⟨o, ho, hc, na, hd⟩, _⟩ := I.tuple hsq
  · refine wpAny_pyReprUnder_ref (by omega) (wpAny_pyReprObjUnder_twin (twin := "tuple.__repr__.under") ⟨o, ho, hc⟩ PySem.F.slot_tuple_repr rfl lo.rm.units0
      (call_twin_own (PySem.F.quiet_tuple_repr_under _) PySem.F.entry_tuple_repr_under PySem.F.check_tuple_repr_under ⟨o, ho, hc⟩ PySem.F.slot_tuple_repr (PySem.F.args_tuple_repr_1 _)
        (tup_body (R := callEnd _ _) (lo.mono (by omega)) cl hna hit hl hz hq I hs (by show (if Code.isGuard _ then _ else _) = _; rw [isGuard_tuple_repr_under]; rfl) (by simp only [Code.weight, isGuard_tuple_repr_under]; rfl) (by rfl) (by first | rfl | simp [Code.envs, Code.isFrame])
          (fun s2 H2 tk I2 e2 => ⟨⟨_, _, rfl⟩, _, _, rfl, rfl, H2, I2, e2⟩) fun e s2 he => he)))
  · have h1 := lo.rm.units
    refine call_repr_slot (by omega) ⟨o, ho, hc⟩ PySem.F.slot_tuple_repr (wpAny_call (codeAny_call_builtin_own (Code.quiet_builtin _ (by decide +kernel)) PySem.F.entry_tuple_repr (PySem.F.slot_tuple_repr.check _ _ _ _ _ _ _ _ ⟨o, ho, hc⟩ (PySem.F.args_tuple_repr_1 _)
      (tup_body (A := A.in1) (base := 0) (R := callEnd _ _) lo.in1 cl hna hit hl (by omega) hq I hs (by show (if Code.isGuard _ then _ else _) = _; rw [isGuard_tuple_repr]; rfl) (by simp only [Code.weight, isGuard_tuple_repr]; rfl) (by rfl) (by first | rfl | simp [Code.envs, Code.isFrame])
        (fun s2 H2 tk I2 e2 => ⟨_, _, rfl, ⟨_, rfl⟩, H2, I2, e2⟩) fun e s2 he => he))))
end
end Rp
/-! a caught error: isinstance of it, a def that is handed it, its fields; a method that may raise; count of truths -/
namespace Rp
open PySem PySem.Spec PyProof.Rows L2
/-- the dict of an exception that is looked at stands tracked, or there is none -/
def HasD (H : Hp) (d : Option Addr) : Prop := d = none ∨ ∃ dx fs, d = some dx ∧ H dx = some (.xd fs)
theorem exc_inst {X : Cx} {pins : List (Addr × Obj)} {σ : L2.St} {H : Hp} {s : Shared} {a D : Addr} {oe : Obj} {d : Option Addr} (I : Inv X pins σ H s) (hp : (a, oe) ∈ X.pn) (hz : Zc (.ref D) d oe) (hf : ∃ vs, oe.data = .fields vs) (hd : HasD H d) :
    ∃ od, PySem.W.InstAt s.heap a oe D od := by
  obtain ⟨hget, _⟩ := I.pin (a, oe) (List.mem_append_left _ hp)
  obtain ⟨vs, hv⟩ := hf
  rcases hd with rfl | ⟨dx, fs, rfl, hx⟩
  · refine ⟨none, ?_⟩
    obtain ⟨oc, od, oda, osl⟩ := oe
    obtain ⟨h1, h2⟩ := hz
    dsimp only at h1 h2 hv
    subst h1 h2 hv
    exact ⟨hget, rfl, rfl, trivial⟩
  · have hx : ObjOk X.prog X.w H s.heap dx (.xd fs) := I.hok dx _ hx
    obtain ⟨mA, hns, hr⟩ := hx
    obtain ⟨od, ho, hl⟩ := lookIn_ns hns
    exact ⟨some od, hget, hz.1, by unfold PySem.W.notCls; rw [hv] <;> rfl, by rw [hz.2]; exact ho⟩
/-- isinstance(e, c), e the error at a -/
def rIsX (K : PySem.W.Frag) (a : Addr) (cls : Value) (d : Option Addr) : List V → Hp → VK → Prop := fun xs H Q => ∃ (D : Addr) (c : V) (cv : Value) (b : Bool), xs = [.ref a, c] ∧ cls = .ref D ∧ ExcC K D ∧ ClsV c cv ∧ HasD H d ∧ PySem.W.kitOne K (.ref D) cv = some b ∧ Q (.bl b) H
/-- isinstance(e, (c1, c2, ..)) -/
def rIsXT (K : PySem.W.Frag) (a : Addr) (cls : Value) (d : Option Addr) : List V → Hp → VK → Prop := fun xs H Q => ∃ (D tp : Addr) (cs : List V) (us : List Value) (b : Bool), xs = [.ref a, .ref tp] ∧ cls = .ref D ∧ ExcC K D ∧ H tp = some (.tup cs) ∧ Paired ClsV cs us ∧ HasD H d ∧ PySem.W.kitAny K (.ref D) us = some b ∧ Q (.bl b) H
section
variable {X : Cx} {a : Addr} {oe : Obj} {cls : Value} {d : Option Addr}
theorem call_isX (hp : (a, oe) ∈ X.pn) (hz : Zc cls d oe) (hf : ∃ vs, oe.data = .fields vs) : CallR X (.builtin "isinstance") (rIsX X.K a cls d) := by
  intro pins s σ H xs us Q I r h
  obtain ⟨D, c, cv, b, rfl, rfl, C, k, hd, e, q⟩ := h
  obtain ⟨u1, u2, rfl, r1, r2⟩ := vals2 r
  have e2 := k.eq r2
  subst e2
  cases r1
  obtain ⟨od, J⟩ := exc_inst I hp hz hf hd
  have hcl : (PySem.W.clsIn X.K D).isSome = true := by
    obtain ⟨cd, hc, _⟩ := PySem.W.any_some C.hd
    rw [hc]; rfl
  exact PySem.W.kia_one (PySem.W.kitx_exc (ox := oe) (od := od) hcl C.hg C.hk C.hs C.ha C.hn C.ht C.hm) I.kIn J e (fun z => nomatch z) fun tk => ⟨.bl b, H, I.tok tk, rfl, q⟩
theorem call_isXT (hp : (a, oe) ∈ X.pn) (hz : Zc cls d oe) (hf : ∃ vs, oe.data = .fields vs) : CallR X (.builtin "isinstance") (rIsXT X.K a cls d) := by
  intro pins s σ H xs us Q I r h
  obtain ⟨D, tp, cs, ws, b, rfl, rfl, C, hT, k, hd, e, q⟩ := h
  obtain ⟨u1, u2, rfl, r1, r2⟩ := vals2 r
  cases r1
  cases (show u2 = Value.ref tp from r2)
  obtain ⟨od, J⟩ := exc_inst I hp hz hf hd
  have hcl : (PySem.W.clsIn X.K D).isSome = true := by
    obtain ⟨cd, hc, _⟩ := PySem.W.any_some C.hd
    rw [hc]; rfl
  obtain ⟨_, its, rv, o, h1, h2, n, h3⟩ := (show ObjOk X.prog X.w H s.heap tp (.tup cs) from I.hok tp _ hT)
  have e3 := ClsV.all k rv
  subst e3
  obtain ⟨oc, oda, dt, sl⟩ := o
  simp only at h2 h3
  subst h2 h3
  exact PySem.W.kia_tup (PySem.W.kitx_exc (ox := oe) (od := od) hcl C.hg C.hk C.hs C.ha C.hn C.ht C.hm) I.kIn J h1 e (fun z => nomatch z) fun tk => ⟨.bl b, H, I.tok tk, rfl, q⟩
end

/-! ### a def that is handed the error -/
/-- what it promises: a the error, cls its class, d its dict -/
abbrev SpE := Addr → Value → Option Addr → Sp
structure FnE (P : Program) (w : World) (K : PySem.W.Frag) (mg : Str → Option Value) (base : Heap) (CX : CXT) (k : Nat) (f : Addr) (fd : FuncData) (ps : List Str) (sp : SpE) : Prop where
  len : ∀ a cls d vs H Q E, sp a cls d vs H Q E → vs.length = ps.length
  run : ∀ (A : Around) (outer : List Env) (s : Shared) (H : Hp) (args : Args) (us : List Value) (vs : List V) (Q : VK) (E : XK) (p : Addr × Obj) (cls : Value) (d : Option Addr), L2H.RoomH k A → L2H.PinOk outer H s p → Zc cls d p.2 → (∃ vs, p.2.data = .fields vs) →
    Env0 P w K mg base A outer s H → BindsTo s fd args (ps.zip us) → Vals vs us → sp p.1 cls d vs H Q E → codeAny (model P w) A (.call (.ref f) args) (CR CX outer P w H s Q E) s
section
variable {P : Program} {w : World} {K : PySem.W.Frag} {mg : Str → Option Value} {base : Heap} {CX : CXT} {k : Nat} {f : Addr} {fd : FuncData} {ps : List Str} {sp : SpE}
theorem fn_ofE {name qual : Str} {params : Arguments} {body : List Stmt} {scope : Scope} {dV kV doc pm cdv ct oc : Value} {an od : Option Addr}
    {osl : Array (Option Value)} {N : List Str} (lk : K.lookup f = some ⟨oc, od, .func (PySem.W.fnOf name qual params body scope dV kV doc pm an cdv ct), osl⟩) (hcd : PySem.W.codeIn K cdv qual = true) (S : FnScope N ps scope)
    (len : ∀ a cls d vs H Q E, sp a cls d vs H Q E → vs.length = ps.length)
    (hbody : ∀ (A : Around) (outer : List Env) (s : Shared) (H : Hp) (vs : List V) (Q : VK) (E : XK) (p : Addr × Obj) (cls : Value) (d : Option Addr), Zc cls d p.2 → (∃ vs, p.2.data = .fields vs) → L2H.RoomH k (A.deeper (envOfC qual scope s.heap.objs.size f cdv)) → sp p.1 cls d vs H Q E →
      ∃ t, PSs (L2H.cxH CX P w K mg base N qual scope f cdv A outer s H E p) body t ∧ t { nx := fun _ H' => Q .non H', rt := Q } (L2.start N vs) H) :
    FnE P w K mg base CX (k + 1) f (PySem.W.fnOf name qual params body scope dV kV doc pm an cdv ct) ps sp := by
  refine ⟨len, fun A outer s H args us vs Q E p cls d hr hpin hz hf e0 hb r hsp => ?_⟩
  have hl := len _ _ _ _ _ _ _ hsp
  have KX : K.In s.heap := e0.mod.kin.keeps fun b o e => (e0.bs b o e).1
  have lim : s.heap.NoLimit := e0.mod.nolimit.keeps fun b o e => (e0.bs b o e).1
  have kinds : ∀ y ∈ ps.zip us, scope.names.lookup y.1 = some .local ∨ (scope.names.lookup y.1 = some .cell ∧ ((cellsFrom (s.heap.objs.size + 1) scope.names []).lookup y.1).isSome = true) := fun ⟨n, v⟩ hy => by
    rcases S.par n (List.of_mem_zip hy).1 with q | q
    · exact .inl q
    · exact .inr ⟨q, PySem.W.cellsFrom_some _ _ _ (.inl q)⟩
  refine codeAny_call_function hr.depth (KX _ _ lk) rfl S.co S.gen rfl (PySem.W.codeRec_of KX hcd) (hb _ _ _ _ ?_)
  refine wpAny_newFunctionEnv_cells S.kind kinds fun env he s1 x => ?_
  subst he
  refine ⟨lim.keeps x.toInCall.keep, codeAny_func ?_⟩
  obtain ⟨t, ht, hq⟩ := hbody A outer s H vs Q E p cls d hz hf (hr.deeper _) hsp
  have I : Inv (L2H.cxH CX P w K mg base N qual scope f cdv A outer s H E p) [] (L2.start N vs) H s1 := L2H.inv_startH S hpin e0 hl r x
  refine wpAny_mono (ht.run [] s1 (L2.start N vs) H _ I hq) (fun fl s' hs => ?_) fun e s' hs => hs
  cases fl with
  | next =>
    obtain ⟨σ', H', J, q⟩ := hs
    exact ⟨V.non, H', J.os, J.bare, J.base, J.hok, (rfl : RelV .non Value.none), q⟩
  | ret u =>
    obtain ⟨v, σ', H', J, rv, q⟩ := hs
    exact ⟨v, H', J.os, J.bare, J.base, J.hok, rv, q⟩
  | brk => exact hs.elim fun _ z => z.elim fun _ z => z.2.elim
  | cont => exact hs.elim fun _ z => z.elim fun _ z => z.2.elim
theorem Fun_okE {x qual : Str} {st : Stmt} {N : List Str} (F : Fun K x qual st f fd) (S : FnScope N ps (defScope st)) (len : ∀ a cls d vs H Q E, sp a cls d vs H Q E → vs.length = ps.length)
    (body : ∀ (cdv : Value) (A : Around) (outer : List Env) (s : Shared) (H : Hp) (vs : List V) (Q : VK) (E : XK) (p : Addr × Obj) (cls : Value) (d : Option Addr), Zc cls d p.2 → (∃ vs, p.2.data = .fields vs) →
      L2H.RoomH k (A.deeper (envOfC qual (defScope st) s.heap.objs.size f cdv)) → sp p.1 cls d vs H Q E →
      ∃ t, PSs (L2H.cxH CX P w K mg base N qual (defScope st) f cdv A outer s H E p) (defBody st) t ∧ t { nx := fun _ H' => Q .non H', rt := Q } (start N vs) H) : FnE P w K mg base CX (k + 1) f fd ps sp := by
  obtain ⟨oc, od, kV, doc, pm, an, cdv, ct, osl, rfl, lk, hcd⟩ := F.ex
  exact fn_ofE lk hcd S len fun A outer s H vs Q E p cls d hz hf hr hsp => body cdv A outer s H vs Q E p cls d hz hf hr hsp
end
section
variable {X : Cx} {CX : CXT} {k : Nat} {f : Addr} {fd : FuncData} {ps : List Str} {sp : SpE} {E : XK} {x : Str} {p pos : Pos} {e : Expr} {es : List Expr} {t : TA} {a : Addr} {oe : Obj} {cls : Value} {d : Option Addr}
theorem pe_callE (F : FnE X.prog X.w X.K X.mg X.base CX k f fd ps sp) (hr : L2H.RoomH k X.A) (hp : (a, oe) ∈ X.pn) (hz : Zc cls d oe) (hf : ∃ vs, oe.data = .fields vs) (hg : Gl X x) (hm : X.mg x = some (.ref f)) (hk : PySem.W.keepIn X.K (.ref f) = true) (hb : Binds X.K fd ps []) (hx : Passes CX X E)
    (ha : PA X (e :: es) t) (hdb : (x == ("__debug__" : Str)) = false := by decide) (he : starEach (e :: es) X.env = (false, eval e X.env) :: starEach es X.env := by rfl) (hpl : (backTo pos (starEach es X.env)).any (·.1) = false := by rfl) :
    PE X (.Call (.Name x p) (e :: es) [] pos) (tCall (sp a cls d) [] E t) := by
  refine ⟨fun pins s σ H Q I h => ?_⟩
  refine wpAny_Call_Name_kw (ld_glob I hg hm ?_ hdb)
  refine PySem.W.callWith_K (h₀ := X.base) I.ok.mod.kin hk (thn (ha.run pos pins s σ H _ I h) fun us s1 ⟨vs, H1, I1, r, q⟩ => ⟨I1.kIn, ?_⟩) he hpl
  have q : sp a cls d (vs ++ []) H1 Q E := q
  rw [List.append_nil] at q
  have hl : us.length = ps.length := by rw [← r.length]; exact F.len _ _ _ _ _ _ _ q
  have b := hb s1 us I1.kIn (by rw [List.append_nil]; exact hl)
  rw [List.append_nil] at b
  have P1 := I1.pin (a, oe) (List.mem_append_left _ hp)
  have hpin : L2H.PinOk X.stack H1 s1 (a, oe) := ⟨P1.1, P1.2.1, fun hm => (List.mem_cons.mp (I1.stkSub a hm)).elim P1.2.2.1 P1.2.2.2.1, P1.2.2.2.2⟩
  refine wpAny_call (codeAny_mono (F.run X.A X.stack s1 H1 ⟨us, []⟩ us vs Q E (a, oe) cls d hr hpin hz hf I1.env0 b r q) fun r s' hq => ?_)
  match r, hq with
  | .error e, hq => exact hx pins σ H1 s1 e s' I1 hq
  | .ok (.ret u), hq => exact I1.after hq
end

/-! ### o.m(e, ..) that may raise, in a try -/
def tMethE (C : Addr) (m : Str) (sp : Sp) (E : L2.St → XK) (ta : TE) (t : TA) : TE := fun σ H Q => ta σ H fun x H1 => ∃ a dx fs, x = .ref a ∧ H1 a = some (.ins C dx fs) ∧ fs.lookup m = none ∧ t σ H1 fun vs H2 => sp (x :: vs) H2 Q (E σ)
theorem pe_methE {X : Cx} {CX : CXT} {k : Nat} {C f : Addr} {fd : FuncData} {ps : List Str} {m : Str} {sp : Sp} {E : L2.St → XK} {o e : Expr} {es : List Expr} {ta : TE} {t : TA} {apos pos : Pos} {pl : Sem Bool} (he : PE X o ta) (c : Cls X.K C) (hm : Meth X.K C m f)
    (F : FnOk X.prog X.w X.K X.mg X.base CX k f fd ps sp) (hr : Room k X.A) (hb : Binds X.K fd ps []) (hx : ∀ σ, PassesAt CX X σ (E σ)) (ha : PA X (e :: es) t)
    (hst : starEach (e :: es) X.env = (false, eval e X.env) :: starEach es X.env := by rfl) (hpl : (backTo pos (starEach es X.env)).any (·.1) = false := by rfl)
    (ht : eval (.Call (.Attribute o m apos) (e :: es) [] pos) X.env = (do
      let ov ← eval o X.env
      standAt apos.atName
      let (f, first) ← holding [ov] (getMethod ov m pl)
      callWith pos f first (backTo pos (starEach (e :: es) X.env)) (backToKw pos (keywordEach [] X.env))) := by rfl) :
    PE X (.Call (.Attribute o m apos) (e :: es) [] pos) (tMethE C m sp E ta t) := by
  refine ⟨fun pins s σ H Q I h => ?_⟩
  refine PySem.W.methodCall_KW (pl := pl) (thn (he.run pins s σ H _ I h) fun u s1 ⟨x, H1, I1, rx, a, dx, fs, ex, ea, l, q⟩ => ?_) ht
  subst ex
  obtain rfl : u = Value.ref a := rx
  refine getmeth_ok I1 ea c hm l ?_
  refine PySem.W.callWith_K (first := [.ref a]) (h₀ := X.base) I.ok.mod.kin hm.kp (thn (ha.run pos pins s1 σ H1 _ I1 q) fun us s2 ⟨vs, H2, I2, r, q2⟩ => ⟨I2.kIn, ?_⟩) hst hpl
  exact run_fnS (us := .ref a :: us) (vs := .ref a :: vs) F hr hb (hx σ) I2 (.cons rfl r) q2

/-! ### xs.count(b) of truths -/
theorem vals_bl_eq : ∀ {bs : List Bool} {us : List Value}, Vals (bs.map V.bl) us → us = bs.map Value.bool
  | [], _, .nil => rfl
  | b :: bs, _, .cons r t => by
    rw [vals_bl_eq t]
    cases r
    rfl
def rCntB (K : PySem.W.Frag) : V → List V → Hp → VK → Prop := fun x xs H Q => ∃ (p : Addr) (bs : List Bool) (k : Bool), x = .ref p ∧ xs = [.bl k] ∧ SqL K H p (bs.map V.bl) ∧ Q (.int (bs.count k : Nat)) H
theorem count_bl (k : Bool) : ∀ bs : List Bool, (bs.map Value.bool).countP (PyProof.Rows.isBoolOf k) = bs.count k
  | [] => rfl
  | b :: bs => by
    rw [List.map_cons, List.countP_cons, List.count_cons, count_bl k bs]
    rfl
theorem mt_bcount {X : Cx} : MtR X "list.count" (rCntB X.K) := by
  intro pins s σ H x xs v us Q I rx rxs h
  obtain ⟨p, bs, k, rfl, rfl, hs, q⟩ := h
  cases rx
  obtain ⟨u, rfl, ru⟩ := rxs.one
  cases ru
  obtain ⟨its, rv, ⟨⟨cls, dd, data, sl⟩, n, ho, hc, hdn, hd⟩, hlen⟩ := I.list hs
  simp only at hc hd
  subst hc hd
  have hi := vals_bl_eq rv
  subst hi
  refine call_meets PySem.F.slot_list_count ⟨_, ho, rfl⟩ PySem.F.entry_list_count (PySem.F.args_list_count_2 _ _)
    (SeqAt.list_countAt p (bs.map Value.bool).toArray n dd sl (.bool k) (PyProof.Rows.isBoolOf k)) ⟨ho, fun y hy => ?_, ?_⟩
  · obtain ⟨b, _, rfl⟩ := List.mem_map.mp (show y ∈ bs.map Value.bool by simpa using hy)
    exact SeqAt.EqAt.bool_bool b k
  · refine ⟨.int (bs.count k : Nat), H, I.tok _, ⟨s.toks, ?_⟩, q⟩
    show Value.int (((bs.map Value.bool).toArray.toList.countP (PyProof.Rows.isBoolOf k) : Nat) : Int) s.toks = Value.int ((bs.count k : Nat) : Int) s.toks
    rw [show (bs.map Value.bool).toArray.toList = bs.map Value.bool from rfl, count_bl]
end Rp
/-! == and != by an own __eq__ that may answer either way -/
namespace Rp
open PySem PySem.Spec PyProof.Rows L2
section
variable {prog : Program} {w : World} {A : Around} {E : Value → Shared → Prop} {s : Shared} {K : PySem.W.Frag} {x C L f : Addr} {h₀ : Heap} {m : Str → Option Value} {ox : Obj} {od : Option Obj} {b tb : Value}
open PySem.W in
/-- x != b where the class says only what == is -/
theorem ne_K {Q : Value → Shared → Prop} (hu : A.units + 1 < cLine) (FR : Fr h₀ L s.heap m) (X₀ : K.In h₀) (I : InstAt s.heap x ox C od) (hb : Looks (model prog w) s.heap (typeOf b) tb) (hn : notFirst K C tb = true)
    (hne : findIn K (.ref C) "__ne__" = some (some (.builtin "object.__ne__"))) (hm : mroIn K C (.type "object") = some true)
    (hs : findIn K (.ref C) "__eq__" = some (some (.ref f))) (hf : isFn K (.ref f) = true)
    (h : wpAny (model prog w) A.in1 (call (.ref f) [.ref x, b]) (fun v s' => ∃ r, v = .bool r ∧ Q (.bool (!r)) s') E s) : wpAny (model prog w) A (richCompare .NotEq (.ref x) b) Q E s := by
  have X := X₀.keeps FR.keep
  have hu1 : A.in1.units < cLine := hu
  have sub : Looks (model prog w) s.heap (isInstance (.ref x) (.type "object")) true := I.type.andThen (looks_mroIn X hm)
  have S := PySem.F.cmp_object.ne
  have one : wpAny (model prog w) A (tryCompare (.ref x) "__ne__" b) (fun r s' => ∃ v, r = some v ∧ Q v s') E s := by
    unfold tryCompare
    have body : wpAny (model prog w) A (call (.builtin "object.__ne__") [.ref x, b]) (fun v s' => ∃ r, v = .bool r ∧ Q (.bool r) s') E s := by
      obtain ⟨hp, g, d, t, os⟩ := s
      refine wpAny_call (codeAny_call_builtin S.plain PySem.F.cmpEntry_ne (@check_slot (model prog w) _ _ ⟨hp, g, d, t, os⟩ "object.__ne__" "object" "__ne__" (.ref x) [b] [] _ PySem.F.cmpKind_ne PySem.F.cmpSplit_ne sub (PySem.F.cmpArgs_ne _ _) ?_))
      unfold Builtin.«object.__ne__»
      refine wpAny_bind (wpAny_of_eq (a := ((Value.ref x : Value), [b])) (by first | rfl | (simp only [Builtin.slotArgs]; rfl)) ?_)
      refine wpAny_bind (wpAny_cRoomFor hu1 ?_)
      refine wpAny_bind (ifBound_K X I hs hf (wpAny_mono h (fun v s' hv => ?_) fun _ _ e => e))
      obtain ⟨r, rfl, q⟩ := hv
      exact wpAny_bind (wpAny_truthy_bool (wpAny_pure ⟨!r, rfl, q⟩))
    have bound : wpAny (model prog w) A (callSpecialIfBound? (.ref x) "__ne__" [b]) (fun o s' => ∃ r, o = some (.bool r) ∧ Q (.bool r) s') E s := by
      simp only [callSpecialIfBound?, bindSpecialIfBound?]
      refine wpAny_holding (wpAny_bind (wpAny_bind (wpAny_bind (I.type.here ((looks_findIn X hne).here ?_)))))
      simp only [S.bind]
      refine wpAny_bind (wpAny_askSetting (wpAny_ite ?_))
      have fin : wpAny (model prog w) A (call (.builtin "object.__ne__") ([.ref x] ++ [b]) >>= fun v => pure (some v)) (fun o s' => ∃ r, o = some (.bool r) ∧ Q (.bool r) s') E s :=
        wpAny_bind (wpAny_mono body (fun v s' h' => by
          obtain ⟨r, rfl, q⟩ := h'
          exact wpAny_pure ⟨r, rfl, q⟩) fun _ _ h' => h')
      split
      · exact wpAny_bind (wpAny_pure (wpAny_pure fin))
      · exact wpAny_tryCatch (wpAny_bind (wpAny_pure (wpAny_pure fin)))
    refine wpAny_bind (wpAny_mono bound (fun v s' hv => ?_) fun _ _ e => e)
    obtain ⟨r, rfl, q⟩ := hv
    exact wpAny_pure ⟨_, rfl, q⟩
  unfold richCompare
  simp only [oneThing_ref]
  refine wpAny_holding (wpAny_bind (wpAny_cRoomFor (Nat.lt_of_succ_lt hu) ?_))
  refine wpAny_bind (I.type.here (wpAny_bind (hb.here ?_)))
  split
  · rename_i q
    have e : subIn K tb (.ref C) = some false := by
      rcases Bool.or_eq_true_iff.mp hn with e | e
      · rw [beq_iff_eq.mp e] at q; simp at q
      · exact beq_iff_eq.mp e
    refine wpAny_bind ((looks_subIn X e).here ?_)
    simp only [Bool.false_eq_true, if_false]
    refine wpAny_bind (wpAny_mono one (fun r s' z => ?_) fun _ _ e => e)
    obtain ⟨v, rfl, hq⟩ := z
    exact wpAny_pure hq
  · refine wpAny_bind (wpAny_pure ?_)
    simp only [Bool.false_eq_true, if_false]
    refine wpAny_bind (wpAny_mono one (fun r s' z => ?_) fun _ _ e => e)
    obtain ⟨v, rfl, hq⟩ := z
    exact wpAny_pure hq
end
/-- what a class with an own == and no own != says -/
structure OwnE (K : PySem.W.Frag) (C f : Addr) : Prop where
  eq : PySem.W.findIn K (.ref C) "__eq__" = some (some (.ref f))
  fn : PySem.W.isFn K (.ref f) = true
  ne : PySem.W.findIn K (.ref C) "__ne__" = some (some (.builtin "object.__ne__"))
  mro : PySem.W.mroIn K C (.type "object") = some true
section
variable {X : Cx} {C f : Addr} {fd : FuncData} {ps : List Str} {sp : Sp} {n : Nat} {E : XK} {CX : CXT}
/-- x == y, x != y: x of the class, y of any type -/
def rOwn (K : PySem.W.Frag) (C : Addr) (sp : Sp) (E : XK) (g : Bool → Bool) : R2 := fun x y H Q => ∃ a dx fs tb, x = .ref a ∧ H a = some (.ins C dx fs) ∧ TyX K H y tb ∧ PySem.W.notFirst K C tb = true ∧ sp [x, y] H (fun v H' => ∃ r, v = .bl r ∧ Q (.bl (g r)) H') E
theorem own_callee {A : Around} {pins : List (Addr × Obj)} {σ : L2.St} {H : Hp} {s : Shared} {x y : V} {u v : Value} {Q : Bool → Hp → Prop} (F : FnOk X.prog X.w X.K X.mg X.base CX n f fd ps sp) (hb : Binds X.K fd ps []) (hx : Passes CX X E) (hr : Room n A) (hfr : A.frames = X.A.frames)
    (I : Inv X pins σ H s) (rx : RelV x u) (ry : RelV y v) (hsp : sp [x, y] H (fun v H' => ∃ r, v = .bl r ∧ Q r H') E) :
    wpAny (model X.prog X.w) A (call (.ref f) [u, v]) (fun v s' => ∃ r, v = .bool r ∧ ∃ H', Inv X pins σ H' s' ∧ Q r H') X.xe s := by
  have e0 : Env0 X.prog X.w X.K X.mg X.base A X.stack s H := by
    have e := I.env0
    exact ⟨by rw [hfr]; exact e.frames, e.mod, e.bs, e.bsz, e.funs, e.frf, e.hok, e.bare⟩
  have hl := F.len _ _ _ _ hsp
  have r2 : Vals [x, y] [u, v] := .cons rx (.cons ry .nil)
  refine wpAny_call (codeAny_mono (F.run A X.stack s H ⟨[u, v], []⟩ [u, v] [x, y] _ E hr e0 (by
    have := hb s [u, v] I.kIn (by simpa using hl)
    simpa using this) r2 hsp) fun r s' hq => ?_)
  match r, hq with
  | .error e, hq => exact hx pins σ H s e s' I hq
  | .ok (.ret w), hq =>
    obtain ⟨z, H', I', rz, b, ez, q⟩ := I.after hq
    subst ez
    cases rz
    exact ⟨b, rfl, H', I', q⟩
theorem op_eqOwn (F : FnOk X.prog X.w X.K X.mg X.base CX n f fd ps sp) (O : OwnE X.K C f) (hb : Binds X.K fd ps []) (hx : Passes CX X E) (hr : Room n X.A) : OpR X (compareOp .Eq) (rOwn X.K C sp E id) := by
  intro pins s σ H x y u v Q I rx ry hq
  obtain ⟨a, dx, fs, tb, rfl, ha, ty, nf, hsp⟩ := hq
  show wpAny (model X.prog X.w) X.A (richCompare .Eq u v) (EP X pins σ Q) X.xe s
  obtain ⟨P, Z, p, hv⟩ := kit_of I ry ty
  have hu : u = .ref a := rx
  subst hu
  obtain ⟨mA, J, _⟩ := ins_get I.hok ha
  obtain ⟨od, J, _⟩ := J.look
  obtain ⟨m, hF⟩ := I.fr
  refine PySem.W.cmp_K (op := .Eq) hr.units0 hF I.ok.mod.kin J (Z.ty _ _ I.kIn p) nf O.eq O.fn ?_
  refine wpAny_mono (own_callee (Q := fun r H' => Q (.bl r) H') F hb hx hr rfl I rx ry hsp) (fun w s' k => ?_) fun _ _ k => k
  obtain ⟨r, rfl, H', I', q⟩ := k
  exact ⟨.bl r, H', I', rfl, q⟩
theorem op_neOwn (F : FnOk X.prog X.w X.K X.mg X.base CX n f fd ps sp) (O : OwnE X.K C f) (hb : Binds X.K fd ps []) (hx : Passes CX X E) (hr : Room (n + 1) X.A) : OpR X (compareOp .NotEq) (rOwn X.K C sp E not) := by
  intro pins s σ H x y u v Q I rx ry hq
  obtain ⟨a, dx, fs, tb, rfl, ha, ty, nf, hsp⟩ := hq
  show wpAny (model X.prog X.w) X.A (richCompare .NotEq u v) (EP X pins σ Q) X.xe s
  obtain ⟨P, Z, p, hv⟩ := kit_of I ry ty
  have hu : u = .ref a := rx
  subst hu
  obtain ⟨mA, J, _⟩ := ins_get I.hok ha
  obtain ⟨od, J, _⟩ := J.look
  obtain ⟨m, hF⟩ := I.fr
  refine ne_K (by have := hr.un; omega) hF I.ok.mod.kin J (Z.ty _ _ I.kIn p) nf O.ne O.mro O.eq O.fn ?_
  refine wpAny_mono (own_callee (Q := fun r H' => Q (.bl (!r)) H') F hb hx hr.in1 rfl I rx ry hsp) (fun w s' k => ?_) fun _ _ k => k
  obtain ⟨r, rfl, H', I', q⟩ := k
  exact ⟨r, rfl, .bl !r, H', I', rfl, q⟩
end
end Rp
/-! str of an own instance; a comprehension over a text; repr of a number whatever runs; figures -/
namespace Rp
open PySem PySem.Spec PyProof.Rows L2
section
variable {X : Cx} {C f : Addr} {fd : FuncData} {ps : List Str} {sp : Sp} {n : Nat} {E : XK} {CX : CXT}
/-- a def of one argument, called from within a builtin -/
theorem callee1 {A : Around} {pins : List (Addr × Obj)} {σ : L2.St} {H : Hp} {s : Shared} {x : V} {u : Value} {Q : V → Hp → Prop} (F : FnOk X.prog X.w X.K X.mg X.base CX n f fd ps sp) (hb : Binds X.K fd ps []) (hx : Passes CX X E) (hr : Room n A) (hfr : A.frames = X.A.frames)
    (I : Inv X pins σ H s) (rx : RelV x u) (hsp : sp [x] H Q E) :
    wpAny (model X.prog X.w) A (call (.ref f) [u]) (fun v s' => ∃ y H', Inv X pins σ H' s' ∧ RelV y v ∧ Q y H') X.xe s := by
  have e0 : Env0 X.prog X.w X.K X.mg X.base A X.stack s H := by
    have e := I.env0
    exact ⟨by rw [hfr]; exact e.frames, e.mod, e.bs, e.bsz, e.funs, e.frf, e.hok, e.bare⟩
  have hl := F.len _ _ _ _ hsp
  have r2 : Vals [x] [u] := .cons rx .nil
  refine wpAny_call (codeAny_mono (F.run A X.stack s H ⟨[u], []⟩ [u] [x] _ E hr e0 (by
    have := hb s [u] I.kIn (by simpa using hl)
    simpa using this) r2 hsp) fun r s' hq => ?_)
  match r, hq with
  | .error e, hq => exact hx pins σ H s e s' I hq
  | .ok (.ret w), hq =>
    obtain ⟨z, H', I', rz, q⟩ := I.after hq
    exact ⟨z, H', I', rz, q⟩
/-- str(x), x of a class with its own __str__ -/
def rStrO (C : Addr) (sp : Sp) (E : XK) : List V → Hp → VK → Prop := fun vs H Q => ∃ a dx fs, vs = [.ref a] ∧ H a = some (.ins C dx fs) ∧ sp [.ref a] H (fun v H' => ∃ t, v = .str t ∧ Q (.str t) H') E
theorem cr_strO (F : FnOk X.prog X.w X.K X.mg X.base CX n f fd ps sp) (hs : PySem.W.findIn X.K (.ref C) "__str__" = some (some (.ref f))) (hf : PySem.W.isFn X.K (.ref f) = true) (hb : Binds X.K fd ps []) (hx : Passes CX X E) (hr : Room (n + 2) X.A) :
    CallR X (.type "str") (rStrO C sp E) := by
  intro pins s σ H vs us Q I r h
  obtain ⟨a, dx, fs, rfl, ha, hsp⟩ := h
  obtain ⟨u, rfl, ru⟩ := vals1 r
  have eu : u = .ref a := ru
  subst eu
  obtain ⟨mA, J, _⟩ := ins_get I.hok ha
  obtain ⟨od, J, _⟩ := J.look
  refine PySem.W.kso_call (by have := hr.un; show X.A.units + 1 + 1 < cLine; omega) I.kIn J hs hf (wpAny_mono (callee1 F hb hx hr.in1.in1 rfl I ru hsp) (fun v s' k => ?_) fun _ _ k => k)
  obtain ⟨y, H', I', ry, t, rfl, q⟩ := k
  obtain ⟨tk, rfl⟩ := ry
  exact ⟨.str t, H', I', ⟨tk, rfl⟩, q⟩
/-- repr(n), whatever guards run -/
theorem cr_reprI : CallR X (.builtin "repr") (fun vs H Q => ∃ i : Int, vs = [.int i] ∧ i.natAbs.log2 < 1920 ∧ Q (.str (Str.ofString (toString i))) H) := by
  intro pins s σ H vs us Q I r h
  obtain ⟨i, rfl, hz, q⟩ := h
  obtain ⟨u, rfl, ru⟩ := vals1 r
  obtain ⟨t, rfl⟩ := ru
  exact PySem.P.repr_of_int hz ⟨.str (Str.ofString (toString i)), H, I.tok _, ⟨s.toks, rfl⟩, q⟩
end
/-- a comprehension over a text's signs -/
theorem lc_str {x : Str} {g : TG} {tt : TT} {te : TE} {vs : List Nat} {σ : L2.St} {H1 : Hp} {D : Addr} {Qd : Hp → Prop} (Pv : Nat → Hp → Prop) (h0 : Pv 0 (upd H1 D (.lst [])))
    (hs : ∀ i c H, x.cps[i]? = some c → Pv i H → g (.str ⟨#[c]⟩) (wipe σ vs) H fun σ2 H2 => wipe σ2 vs = wipe σ vs ∧ tt σ2 H2 fun b H3 =>
      if b = true then te σ2 H3 fun y H4 => ∃ acc, H4 D = some (.lst acc) ∧ acc.length < sizeLine ∧ Pv (i + 1) (upd H4 D (.lst (acc ++ [y]))) else Pv (i + 1) H3) (hd : ∀ H, Pv x.cps.size H → Qd H) :
    ∃ W : Nat → Nat → Hp → Prop, (∃ m, W 0 m (upd H1 D (.lst []))) ∧ ∀ i m H, W i m H →
      ((Its x).stop i H ∧ Qd H) ∨ ((Its x).go i H ∧ ∃ Nx : Hp → Prop, (∀ H', Nx H' → ∃ m', m' < m ∧ W (i + 1) m' H') ∧ ∀ y H', (Its x).yld i H y H' → g y (wipe σ vs) H' fun σ2 H2 => wipe σ2 vs = wipe σ vs ∧ tt σ2 H2 fun b H3 =>
        if b = true then te σ2 H3 fun y H4 => ∃ acc, H4 D = some (.lst acc) ∧ acc.length < sizeLine ∧ Nx (upd H4 D (.lst (acc ++ [y]))) else Nx H3) := by
  refine ⟨fun i m H => m = x.cps.size - i ∧ i ≤ x.cps.size ∧ Pv i H, ⟨x.cps.size, by simp, Nat.zero_le _, h0⟩, ?_⟩
  rintro i m H ⟨rfl, hi, p⟩
  by_cases hlt : i < x.cps.size
  · refine .inr ⟨hlt, Pv (i + 1), fun H' p' => ⟨x.cps.size - (i + 1), by omega, rfl, hlt, p'⟩, fun y H' hy => ?_⟩
    obtain ⟨rfl, c, hc, rfl⟩ := hy
    exact hs i c H' hc p
  · have e : i = x.cps.size := by omega
    subst e
    exact .inl ⟨Nat.le_refl _, hd H p⟩

/-! ### figures -/
/-- a number's figures are more than k where the number is 10 ^ k and more -/
theorem numL_small : ∀ (k n : Nat), (TL.numL n).length ≤ k → n < 10 ^ k
  | 0, n, h => absurd (List.length_eq_zero_iff.mp (Nat.le_zero.mp h)) (TL.numL_ne n)
  | k + 1, n, h => by
    by_cases hn : n < 10
    · have : 1 ≤ 10 ^ k := Nat.one_le_pow _ _ (by decide)
      rw [Nat.pow_succ]
      omega
    · rw [TL.numL_step (by omega), List.length_append] at h
      have e : [48 + n % 10].length = 1 := rfl
      have ih := numL_small k (n / 10) (by omega)
      rw [Nat.pow_succ]
      omega
/-- the first figure is no nought but of 0 -/
theorem numL_head (n : Nat) : 0 < n → ∃ c r, TL.numL n = c :: r ∧ c ≠ 48 := by
  induction n using Nat.strongRecOn with
  | _ n ih =>
    intro h0
    by_cases h : n < 10
    · exact ⟨48 + n, [], TL.numL_lt h, by omega⟩
    · obtain ⟨c, r, e, hc⟩ := ih (n / 10) (by omega) (by omega)
      exact ⟨c, r ++ [48 + n % 10], by rw [TL.numL_step (by omega), e]; rfl, hc⟩
end Rp
/-! == where the right one is an own instance with its own ==, the left one of a built-in type -/
namespace Rp
open PySem PySem.Spec PyProof.Rows L2
open PySem.AutoSeq1 (wpAny_loadPart')
section
variable {prog : Program} {w : World} {A : Around} {E : Value → Shared → Prop} {s : Shared} {K : PySem.W.Frag} {x C L f : Addr} {h₀ : Heap} {m : Str → Option Value} {dx : Addr} {od : Option Obj}
open PySem.W Builtin in
/-- the built-in type declines -/
theorem rc_back {u : Value} {T id : String} {Q : Value → Shared → Prop} (hu : A.units < cLine) (FR : Fr h₀ L s.heap m) (X₀ : K.In h₀) (hT : s.TypeIs u T) (slot : Slot T "__eq__" id) (I : InstAt s.heap x (instObj C dx) C od) (hsub : subIn K (.ref C) (.type T) = some false)
    (hone : oneThing? .Eq u (.ref x) = none) (dec : wpAny (model prog w) A (call (.builtin id) [u, .ref x]) (fun v s' => v = .notImplemented ∧ s' = s) E s)
    (hs : findIn K (.ref C) "__eq__" = some (some (.ref f))) (hf : isFn K (.ref f) = true) (h : wpAny (model prog w) A (call (.ref f) [.ref x, u]) (PySem.W.CmpBack Q) E s) : wpAny (model prog w) A (richCompare .Eq u (.ref x)) Q E s := by
  have X := X₀.keeps FR.keep
  have one : wpAny (model prog w) A (tryCompare (.ref x) "__eq__" u) (fun r s' => ∃ v, r = some v ∧ Q v s') E s := by
    unfold tryCompare
    refine wpAny_bind (ifBound_K X I hs hf (wpAny_mono h (fun v s' hv => ?_) fun _ _ e => e))
    cases v <;> first | exact hv.elim | exact wpAny_pure ⟨_, rfl, hv⟩
  have hne : (Value.type T != Value.ref C) = true := by simp
  unfold richCompare
  rw [hone]
  refine wpAny_holding (wpAny_bind (wpAny_cRoomFor hu ?_))
  refine wpAny_bind (wpAny_typeOf hT (wpAny_bind (I.type.here ?_)))
  rw [hne]
  refine wpAny_bind ((looks_subIn X hsub).here ?_)
  simp only [Bool.false_eq_true, if_false, Bool.not_false, if_true]
  refine wpAny_bind (m := tryCompare u _ (.ref x)) (wpAny_tryCompare_declines hT slot (wpAny_mono dec (fun v s₁ h₁ => ⟨h₁.1, ?_⟩) fun _ _ x => x))
  obtain ⟨_, rfl⟩ := h₁
  refine wpAny_bind (wpAny_mono one (fun r s' z => ?_) fun _ _ e => e)
  obtain ⟨v, rfl, hq⟩ := z
  exact wpAny_pure hq
open PySem.W Builtin in
theorem dec_non (hx : s.heap.get? x = some (instObj C dx)) : wpAny (model prog w) A (call (.builtin "NoneType.__eq__") [.none, .ref x]) (fun v s' => v = .notImplemented ∧ s' = s) E s := by
  refine wpAny_call_entry PySem.F.slot_NoneType_eq (typeIs_none s) PySem.F.entry_NoneType_eq ?_ (PySem.F.args_NoneType_eq_2 _ _)
  obtain ⟨hp, g, d, tk, os⟩ := s
  wp_walk using wpAny_loadPart' hx
  exact ⟨_, rfl, rfl, rfl⟩
open PySem.W Builtin in
theorem dec_int {i : Int} {t : Tok} (hx : s.heap.get? x = some (instObj C dx)) : wpAny (model prog w) A (call (.builtin "int.__eq__") [.int i t, .ref x]) (fun v s' => v = .notImplemented ∧ s' = s) E s := by
  refine wpAny_call_entry PySem.F.slot_int_eq (typeIs_int s i t) PySem.F.entry_int_eq ?_ (PySem.F.args_int_eq_2 _ _)
  obtain ⟨hp, g, d, tk, os⟩ := s
  wp_walk using wpAny_loadPart' hx
  exact ⟨_, rfl, rfl, rfl⟩
open PySem.W Builtin in
theorem dec_bool {b : Bool} (hx : s.heap.get? x = some (instObj C dx)) : wpAny (model prog w) A (call (.builtin "int.__eq__") [.bool b, .ref x]) (fun v s' => v = .notImplemented ∧ s' = s) E s := by
  refine wpAny_call_entry PySem.F.slot_bool_eq (PySem.typeIs_bool s b) PySem.F.entry_int_eq ?_ (PySem.F.args_int_eq_2 _ _)
  obtain ⟨hp, g, d, tk, os⟩ := s
  wp_walk using wpAny_loadPart' hx
  exact ⟨_, rfl, rfl, rfl⟩
open PySem.W Builtin in
theorem dec_str {y : Str} {t : Tok} (hx : s.heap.get? x = some (instObj C dx)) : wpAny (model prog w) A (call (.builtin "str.__eq__") [.str y t, .ref x]) (fun v s' => v = .notImplemented ∧ s' = s) E s := by
  refine wpAny_call_entry PySem.F.slot_str_eq (typeIs_str s y t) PySem.F.entry_str_eq ?_ (PySem.F.args_str_eq_2 _ _)
  obtain ⟨hp, g, d, tk, os⟩ := s
  wp_walk using wpAny_loadPart' hx
  exact ⟨_, rfl, rfl, rfl⟩
open PySem.W Builtin in
theorem dec_tup {a : Addr} (hT : s.TypeIs (.ref a) "tuple") (hi : Looks (model prog w) s.heap (isInstance (.ref x) (.type "tuple")) false) : wpAny (model prog w) A (call (.builtin "tuple.__eq__") [.ref a, .ref x]) (fun v s' => v = .notImplemented ∧ s' = s) E s := by
  refine wpAny_call_entry PySem.F.slot_tuple_eq hT PySem.F.entry_tuple_eq ?_ (PySem.F.args_tuple_eq_2 _ _)
  obtain ⟨hp, g, d, tk, os⟩ := s
  wp_walk using PySem.W.Looks.here hi
  exact ⟨_, rfl, rfl, rfl⟩
open PySem.W Builtin in
theorem dec_lst {a : Addr} (hT : s.TypeIs (.ref a) "list") (hi : Looks (model prog w) s.heap (isInstance (.ref x) (.type "list")) false) : wpAny (model prog w) A (call (.builtin "list.__eq__") [.ref a, .ref x]) (fun v s' => v = .notImplemented ∧ s' = s) E s := by
  refine wpAny_call_entry PySem.F.slot_list_eq hT PySem.F.entry_list_eq ?_ (PySem.F.args_list_eq_2 _ _)
  obtain ⟨hp, g, d, tk, os⟩ := s
  wp_walk using PySem.W.Looks.here hi
  exact ⟨_, rfl, rfl, rfl⟩
open PySem.W Builtin in
theorem dec_dict {a : Addr} (hT : s.TypeIs (.ref a) "dict") (hi : Looks (model prog w) s.heap (isInstance (.ref x) (.type "dict")) false) : wpAny (model prog w) A (call (.builtin "dict.__eq__") [.ref a, .ref x]) (fun v s' => v = .notImplemented ∧ s' = s) E s := by
  refine wpAny_call_entry PySem.F.slot_dict_eq hT PySem.F.entry_dict_eq ?_ (PySem.F.args_dict_eq_2 _ _)
  obtain ⟨hp, g, d, tk, os⟩ := s
  wp_walk using PySem.W.Looks.here hi
  exact ⟨_, rfl, rfl, rfl⟩
end
end Rp
/-! in, count, == of rows whose items' == runs the text and may answer either way: the loops -/
namespace Rp
open PySem PySem.SeqAt
open AutoSeq1 (wpAny_loadPart')
open MeetsSeq MeetsSeq2 MeetsSeq3 SeqRoads2
section
variable {prog : Program} {w : World} {A : Around} {R : Result → Shared → Prop}
/-- at each turn the list is read anew: N items, the i-th one compared with x -/
def RowI (prog : Program) (w : World) (A : Around) (E : Value → Shared → Prop) (l : Addr) (x : Value) (N : Nat) (e : Nat → Bool) (I : Nat → Shared → Prop) : Prop :=
  ∀ i s, I i s → ∃ (items : Array Value) (n : Nat), s.heap.get? l = some { cls := .type "list", data := .seq items n } ∧ items.size = N ∧
    ∀ (h1 : i < items.size), wpAny (model prog w) A.in1 (eqBool items[i] x) (fun r s' => r = e i ∧ I (i + 1) s') E s
theorem contains_loopG (l : Addr) (x : Value) (N : Nat) (e : Nat → Bool) (I : Nat → Shared → Prop) (hl : RowI prog w A (fun e s' => R (.error e) s') l x N e I)
    (fin : ∀ i s, I i s → R (.ok (.ret (.bool ((List.range N).any e)))) s) (k : Nat) :
    ∀ i : Nat, N - i = k → i ≤ N → (∀ j, j < i → e j = false) → ∀ s, I i s →
      wpAny (model prog w) A.in1 (Builtin.«list.__contains__.loop» ⟨[.ref l, x, rawInt i], []⟩) (GQ.FinOf prog w A R) (fun e s' => R (.error e) s') s := by
  induction k with
  | zero =>
    intro i hk hi hj s h
    obtain ⟨items, n, hl1, hs1, _⟩ := hl _ _ h
    have hi' : i = N := by omega
    have hany : (List.range N).any e = false := List.any_eq_false.mpr fun j hm => by
      rw [hj j (by have := List.mem_range.mp hm; omega)]
      exact Bool.false_ne_true
    have hR := fin i s h
    rw [hany] at hR
    obtain ⟨hp, g, d, tk, os⟩ := s
    wp_walk using wpAny_loadPart' hl1
    have hi1 : items[((i : Nat) : Int).toNat]? = none := by simp; omega
    rw [hi1]
    wp_walk
    exact hR
  | succ k ih =>
    intro i hk hi hj s h
    obtain ⟨items, n, hl1, hs1, turn⟩ := hl _ _ h
    have hlt : i < items.size := by omega
    have ht := turn hlt
    obtain ⟨hp, g, d, tk, os⟩ := s
    wp_walk using wpAny_loadPart' hl1
    have hi1 : items[((i : Nat) : Int).toNat]? = some items[i] := by simp [hlt]
    have hc : ((i : Int) + 1) = ((i + 1 : Nat) : Int) := by omega
    rw [hi1]
    refine wpAny_bind (wpAny_mono ht (fun r s2 h2 => ?_) fun _ _ x => x)
    obtain ⟨hr, h2⟩ := h2
    cases r with
    | true =>
      have hany : (List.range N).any e = true := List.any_eq_true.mpr ⟨i, List.mem_range.mpr (by omega), hr.symm⟩
      have hR := fin _ s2 h2
      rw [hany] at hR
      obtain ⟨hp2, g2, d2, tk2, os2⟩ := s2
      wp_walk
      exact hR
    | false =>
      have hrec := ih (i + 1) (by omega) (by omega) (fun j hj' => by
        by_cases z : j = i
        · rw [z]; exact hr.symm
        · exact hj j (by omega)) s2 h2
      obtain ⟨hp2, g2, d2, tk2, os2⟩ := s2
      wp_walk
      rw [hc]
      exact ⟨plainId_quiet plain_contains_loop _, codeAny_builtin entry_contains_loop (by
        rw [Around.under_plainId plain_contains_loop _]
        exact hrec)⟩
theorem list_containsG (l : Addr) (x : Value) (N : Nat) (e : Nat → Bool) (I : Nat → Shared → Prop) (hl : RowI prog w A (fun e s' => R (.error e) s') l x N e I)
    (fin : ∀ i s, I i s → R (.ok (.ret (.bool ((List.range N).any e)))) s) {s : Shared} (h : I 0 s) :
    wpAny (model prog w) A.in1 (Builtin.«list.__contains__» ⟨[.ref l, x], []⟩) (GQ.FinOf prog w A R) (fun e s' => R (.error e) s') s := by
  obtain ⟨items, n, hl1, hs1, _⟩ := hl _ _ h
  have hrec := contains_loopG (A := A) (R := R) l x N e I hl fin _ 0 rfl (Nat.zero_le _) (fun j hj => absurd hj (Nat.not_lt_zero j)) s h
  obtain ⟨hp, g, d, tk, os⟩ := s
  wp_walk using wpAny_loadPart' hl1
  exact ⟨plainId_quiet plain_contains_loop _, codeAny_builtin entry_contains_loop (by
    rw [Around.under_plainId plain_contains_loop _]
    exact hrec)⟩
theorem count_loopG (l : Addr) (x : Value) (N : Nat) (e : Nat → Bool) (I : Nat → Shared → Prop) (hl : RowI prog w A (fun e s' => R (.error e) s') l x N e I)
    (fin : ∀ s, I N s → R (.ok (.ret (.int (((List.range N).countP e : Nat) : Int) s.toks))) { s with toks := s.toks + 1 }) (k : Nat) :
    ∀ i : Nat, N - i = k → i ≤ N → ∀ s, I i s →
      wpAny (model prog w) A.in1 (Builtin.«list.count.loop» ⟨[.ref l, x, rawInt i, rawInt (((List.range i).countP e : Nat) : Int)], []⟩) (GQ.FinOf prog w A R) (fun e s' => R (.error e) s') s := by
  induction k with
  | zero =>
    intro i hk hi s h
    obtain ⟨items, n, hl1, hs1, _⟩ := hl _ _ h
    have hi' : i = N := by omega
    have hR := fin s (hi' ▸ h)
    rw [← hi'] at hR
    obtain ⟨hp, g, d, tk, os⟩ := s
    wp_walk using wpAny_loadPart' hl1
    have hi1 : items[((i : Nat) : Int).toNat]? = none := by simp; omega
    rw [hi1]
    wp_walk
    simpa using hR
  | succ k ih =>
    intro i hk hi s h
    obtain ⟨items, n, hl1, hs1, turn⟩ := hl _ _ h
    have hlt : i < items.size := by omega
    have ht := turn hlt
    have hsucc : (List.range (i + 1)).countP e = (List.range i).countP e + (if e i then 1 else 0) := by
      rw [List.range_succ, List.countP_append]
      simp [List.countP_cons]
    obtain ⟨hp, g, d, tk, os⟩ := s
    wp_walk using wpAny_loadPart' hl1
    have hi1 : items[((i : Nat) : Int).toNat]? = some items[i] := by simp [hlt]
    have hc : ((i : Int) + 1) = ((i + 1 : Nat) : Int) := by omega
    rw [hi1]
    refine wpAny_bind (wpAny_mono ht (fun r s2 h2 => ?_) fun _ _ x => x)
    obtain ⟨hr, h2⟩ := h2
    have hrec := ih (i + 1) (by omega) (by omega) s2 h2
    rw [hsucc] at hrec
    obtain ⟨hp2, g2, d2, tk2, os2⟩ := s2
    cases r with
    | true =>
      rw [← hr, if_pos rfl] at hrec
      wp_walk
      rw [hc]
      refine ⟨plainId_quiet plain_count_loop _, codeAny_builtin entry_count_loop (by
        rw [Around.under_plainId plain_count_loop _]
        have e1 : (((List.range i).countP e : Nat) : Int) + 1 = (((List.range i).countP e + 1 : Nat) : Int) := by omega
        first
        | (rw [e1]; exact hrec)
        | (simp only [if_true]; rw [e1]; exact hrec))⟩
    | false =>
      rw [← hr, if_neg Bool.false_ne_true, Nat.add_zero] at hrec
      wp_walk
      rw [hc]
      refine ⟨plainId_quiet plain_count_loop _, codeAny_builtin entry_count_loop (by
        rw [Around.under_plainId plain_count_loop _]
        first
        | exact hrec
        | (simp only [Bool.false_eq_true, if_false]; exact hrec))⟩
theorem list_countG (l : Addr) (x : Value) (N : Nat) (e : Nat → Bool) (I : Nat → Shared → Prop) (hl : RowI prog w A (fun e s' => R (.error e) s') l x N e I)
    (fin : ∀ s, I N s → R (.ok (.ret (.int (((List.range N).countP e : Nat) : Int) s.toks))) { s with toks := s.toks + 1 }) {s : Shared} (h : I 0 s) :
    wpAny (model prog w) A.in1 (Builtin.«list.count» ⟨[.ref l, x], []⟩) (GQ.FinOf prog w A R) (fun e s' => R (.error e) s') s := by
  obtain ⟨items, n, hl1, hs1, _⟩ := hl _ _ h
  have hrec := count_loopG (A := A) (R := R) l x N e I hl fin _ 0 rfl (Nat.zero_le _) s h
  obtain ⟨hp, g, d, tk, os⟩ := s
  wp_walk using wpAny_loadPart' hl1
  exact ⟨plainId_quiet plain_count_loop _, codeAny_builtin entry_count_loop (by
    rw [Around.under_plainId plain_count_loop _]
    exact hrec)⟩
/-- tuples of one length -/
theorem tuple_eqG2 (l b : Addr) (items items2 : Array Value) (n n2 : Nat) (dd dd2 : Option Addr) (sl sl2 : Array (Option Value)) (hsz : items.size = items2.size) (e : Nat → Bool) (I : Nat → Shared → Prop)
    (turn : ∀ i (h1 : i < items.size) (h2 : i < items2.size) s, I i s → wpAny (model prog w) A.in1 (eqBool items[i] items2[i]) (fun r s' => r = e i ∧ I (i + 1) s') (fun e s' => R (.error e) s') s)
    (fin : ∀ i s, I i s → R (.ok (.ret (.bool ((List.range items.size).all e)))) s) {s : Shared} (hl1 : s.heap.get? l = some { cls := .type "tuple", dict := dd, data := .seq items n, slots := sl }) (hb1 : s.heap.get? b = some { cls := .type "tuple", dict := dd2, data := .seq items2 n2, slots := sl2 }) (h : I 0 s) :
    wpAny (model prog w) A.in1 (Builtin.«tuple.__eq__» ⟨[.ref l, .ref b], []⟩) (GQ.FinOf prog w A R) (fun e s' => R (.error e) s') s := by
  have f2 := AutoSeq1.sub_tuple_tuple
  have hZ : (items.toList.zip items2.toList).length = items.size := by simp [hsz]
  have h0 := h
  obtain ⟨hp, g, d, tk, os⟩ := s
  wp_walk using wpAny_loadPart' hl1, wpAny_loadPart' hb1, wpAny_forIn_list _ (fun rest b s' => b.1 = none ∧ ∃ i, rest = (items.toList.zip items2.toList).drop i ∧ i ≤ items.size ∧ (∀ j, j < i → e j = true) ∧ I i s') _
  case turn =>
    rintro ⟨y, x⟩ rest b s' ⟨hb', i, hz, hi, hj, hI⟩
    have hlt : i < (items.toList.zip items2.toList).length := by
      rcases Nat.lt_or_ge i (items.toList.zip items2.toList).length with h' | h'
      · exact h'
      · rw [List.drop_of_length_le h'] at hz; cases hz
    have h1 : i < items.size := hZ ▸ hlt
    have h2 : i < items2.size := hsz ▸ h1
    rw [List.drop_eq_getElem_cons hlt] at hz
    injection hz with hyx hrest
    have hy : y = items[i] := by have := congrArg Prod.fst hyx; simpa using this
    have hx : x = items2[i] := by have := congrArg Prod.snd hyx; simpa using this
    subst hy hx
    refine wpAny_bind (wpAny_mono (turn i h1 h2 s' hI) (fun r s2 q2 => ?_) fun _ _ x => x)
    obtain ⟨hr, q2⟩ := q2
    cases r with
    | true =>
      wp_walk
      exact ⟨rfl, i + 1, hrest, h1, fun j hj' => by
        by_cases z : j = i
        · rw [z]; exact hr.symm
        · exact hj j (by omega), q2⟩
    | false =>
      have hall : (List.range items.size).all e = false := List.all_eq_false.mpr ⟨i, List.mem_range.mpr h1, by rw [← hr]; exact Bool.false_ne_true⟩
      have hR := fin _ s2 q2
      rw [hall] at hR
      wp_walk
      exact hR
  case fin =>
    rintro ⟨b1, b2⟩ s' ⟨hb', i, hz, hi, hj, hI⟩
    simp only at hb'
    subst hb'
    have hge : items.size ≤ i := by
      rcases Nat.lt_or_ge i (items.toList.zip items2.toList).length with h' | h'
      · rw [List.drop_eq_getElem_cons h'] at hz; cases hz
      · exact hZ ▸ h'
    have hi' : i = items.size := by omega
    have hall : (List.range items.size).all e = true := List.all_eq_true.mpr fun j hm => hj j (by have := List.mem_range.mp hm; omega)
    have hR := fin _ s' hI
    rw [hall] at hR
    wp_walk
    simpa [Builtin.Tuple.tupleCompareSizes, hsz] using hR
  case h =>
    exact ⟨rfl, 0, rfl, Nat.zero_le _, fun j hj => absurd hj (Nat.not_lt_zero j), h0⟩
end
end Rp
/-! the same by the abstract heap -/
namespace Rp
open PySem PySem.Spec PyProof.Rows L2
abbrev Eqb := V → V → Bool → Hp → Prop
def MonB (D : Eqb) : Prop := ∀ x y b H H', Ext H H' → D x y b H → D x y b H'
def EqB (X : Cx) (n : Nat) (D : Eqb) : Prop := ∀ (A : Around) (pins : List (Addr × Obj)) (s : Shared) (σ : L2.St) (H : Hp) (x y : V) (u v : Value) (b : Bool), Sub X n A → Inv X pins σ H s → RelV x u → RelV y v → D x y b H →
  wpAny (model X.prog X.w) A (eqBool u v) (fun r s' => r = b ∧ ∃ H', Inv X pins σ H' s' ∧ Ext H H') X.xe s
theorem EqB.mono {X : Cx} {n m : Nat} {D : Eqb} (h : EqB X n D) (hn : n ≤ m) : EqB X m D := fun A pins s σ H x y u v b sb => h A pins s σ H x y u v b (sb.mono hn)
/-- what the own == promises: the answer that R tells -/
def spO (R : Addr → V → Bool → Hp → Prop) : Sp := fun vs H Q _ => ∃ a y b, vs = [.ref a, y] ∧ R a y b H ∧ ∀ H', Ext H H' → Q (.bl b) H'
/-- a value of a built-in type -/
inductive BackV (K : PySem.W.Frag) (H : Hp) : V → String → Prop where
  | non : BackV K H .non "NoneType"
  | bl (b : Bool) : BackV K H (.bl b) "bool"
  | int (i : Int) : BackV K H (.int i) "int"
  | str (x : Str) : BackV K H (.str x) "str"
  | tup {a : Addr} {xs : List V} (h : SqT K H a xs) : BackV K H (.ref a) "tuple"
  | lst {a : Addr} {xs : List V} (h : H a = some (.lst xs)) : BackV K H (.ref a) "list"
  | dK {a : Addr} {kvs : List (Key × V)} (h : H a = some (.dK kvs)) : BackV K H (.ref a) "dict"
theorem BackV.ext {K : PySem.W.Frag} {H H' : Hp} {x : V} {T : String} (h : BackV K H x T) (e : Ext H H') : BackV K H' x T := by
  cases h with
  | non => exact .non
  | bl b => exact .bl b
  | int i => exact .int i
  | str y => exact .str y
  | tup h => exact .tup (h.ext e)
  | lst h => exact .lst (e _ _ h)
  | dK h => exact .dK (e _ _ h)
theorem tyX_ext {K : PySem.W.Frag} {H H' : Hp} {x : V} {t : Value} (h : TyX K H x t) (e : Ext H H') : TyX K H' x t := by
  cases h with
  | base b =>
    cases b with
    | non => exact .base .non
    | bl y => exact .base (.bl y)
    | int y => exact .base (.int y)
    | str y => exact .base (.str y)
    | flt y => exact .base (.flt y)
    | lst h => exact .base (.lst (e _ _ h))
    | frz h => exact .base (.frz (e _ _ h))
    | tup h => exact .base (.tup (e _ _ h))
    | dK h => exact .base (.dK (e _ _ h))
    | dT h => exact .base (.dT (e _ _ h))
    | ins h c1 c2 c3 c4 c5 => exact .base (.ins (e _ _ h) c1 c2 c3 c4 c5)
  | byt y => exact .byt y
  | set h => exact .set (e _ _ h)
  | kList h c => exact .kList h c
  | kTuple h c => exact .kTuple h c
  | kDict h c => exact .kDict h c
  | fTuple h => exact .fTuple (e _ _ h)
  | fDict h => exact .fDict (e _ _ h)
/-- an own instance on either side, or flat values -/
inductive DOw (K : PySem.W.Frag) (C : Addr) (R : Addr → V → Bool → Hp → Prop) : Eqb where
  | same {a : Addr} {H : Hp} : DOw K C R (.ref a) (.ref a) true H
  | left {a dx : Addr} {fs : List (Str × V)} {y : V} {b : Bool} {tb : Value} {H : Hp} (h : H a = some (.ins C dx fs)) (ty : TyX K H y tb) (nf : PySem.W.notFirst K C tb = true) (ne : y ≠ .ref a) (r : R a y b H) : DOw K C R (.ref a) y b H
  | right {a dx : Addr} {fs : List (Str × V)} {x : V} {b : Bool} {T : String} {H : Hp} (h : H a = some (.ins C dx fs)) (ty : BackV K H x T) (hs : PySem.W.subIn K (.ref C) (.type T) = some false) (ne : x ≠ .ref a) (r : R a x b H) : DOw K C R x (.ref a) b H
  | flat {x y : V} {H : Hp} (hx : flatV x = true) (hy : flatV y = true) : DOw K C R x y (eqV x y) H
theorem mon_ow {K : PySem.W.Frag} {C : Addr} {R : Addr → V → Bool → Hp → Prop} (hR : ∀ a y b H H', Ext H H' → R a y b H → R a y b H') : MonB (DOw K C R) := fun x y b H H' e d => by
  cases d with
  | same => exact .same
  | left h ty nf ne r => exact .left (e _ _ h) (tyX_ext ty e) nf ne (hR _ _ _ _ _ e r)
  | right h ty hs ne r => exact .right (e _ _ h) (ty.ext e) hs ne (hR _ _ _ _ _ e r)
  | flat hx hy => exact .flat hx hy
section
variable {prog : Program} {w : World} {A : Around} {E : Value → Shared → Prop} {s : Shared}
theorem eqBool_left {a : Addr} {v : Value} {Q : Bool → Shared → Prop} (hne : v ≠ .ref a) (h : wpAny (model prog w) A (richCompare .Eq (.ref a) v) (fun v s' => ∃ r, v = .bool r ∧ Q r s') E s) : wpAny (model prog w) A (eqBool (.ref a) v) Q E s := by
  unfold eqBool
  refine wpAny_holding ?_
  refine wpAny_ite_split (fun hab => absurd (eq_of_beq hab).symm hne) (fun _ => ?_)
  refine wpAny_bind (wpAny_mono h (fun v s' hv => ?_) fun _ _ x => x)
  obtain ⟨r, rfl, q⟩ := hv
  exact wpAny_truthy_bool q
theorem eqBool_right {a : Addr} {u : Value} {Q : Bool → Shared → Prop} (hne : u ≠ .ref a) (h : wpAny (model prog w) A (richCompare .Eq u (.ref a)) (fun v s' => ∃ r, v = .bool r ∧ Q r s') E s) : wpAny (model prog w) A (eqBool u (.ref a)) Q E s := by
  unfold eqBool
  refine wpAny_holding ?_
  refine wpAny_ite_split (fun hab => absurd (eq_of_beq hab) hne) (fun _ => ?_)
  cases u <;>
  · refine wpAny_bind (wpAny_mono h (fun v s' hv => ?_) fun _ _ x => x)
    obtain ⟨r, rfl, q⟩ := hv
    exact wpAny_truthy_bool q
end
theorem rel_ne {y : V} {v : Value} {a : Addr} (r : RelV y v) (h : y ≠ .ref a) : v ≠ .ref a := fun z => by
  subst z
  cases y with
  | ref c =>
    have e : Value.ref a = Value.ref c := r
    injection e with e
    exact h (by rw [e])
  | non => cases (show Value.ref a = Value.none from r)
  | bl b => cases (show Value.ref a = Value.bool b from r)
  | int i => obtain ⟨t, e⟩ := (show ∃ t, Value.ref a = Value.int i t from r); cases e
  | str i => obtain ⟨t, e⟩ := (show ∃ t, Value.ref a = Value.str i t from r); cases e
  | byt i => obtain ⟨t, e⟩ := (show ∃ t, Value.ref a = Value.bytes i t from r); cases e
  | flt i => obtain ⟨t, e⟩ := (show ∃ t, Value.ref a = Value.float i t from r); cases e
  | ty i => cases (show Value.ref a = Value.type i from r)
section
variable {X : Cx} {C f : Addr} {fd : FuncData} {ps : List Str} {n : Nat} {E : XK} {CX : CXT} {R : Addr → V → Bool → Hp → Prop}
/-- == of an own instance with anything, as a rich comparison -/
theorem rcB_left (F : FnOk X.prog X.w X.K X.mg X.base CX n f fd ps (spO R)) (O : OwnE X.K C f) (hb : Binds X.K fd ps []) (hx : Passes CX X E) {A : Around} {pins : List (Addr × Obj)} {s : Shared} {σ : L2.St} {H : Hp} {a dx : Addr} {fs : List (Str × V)} {y : V} {v tb : Value} {b : Bool}
    (sb : Sub X n A) (I : Inv X pins σ H s) (ry : RelV y v) (h : H a = some (.ins C dx fs)) (ty : TyX X.K H y tb) (nf : PySem.W.notFirst X.K C tb = true) (r : R a y b H) :
    wpAny (model X.prog X.w) A (richCompare .Eq (.ref a) v) (fun w s' => w = .bool b ∧ ∃ H', Inv X pins σ H' s' ∧ Ext H H') X.xe s := by
  obtain ⟨P, Z, p, hv⟩ := kit_of I ry ty
  obtain ⟨mA, J, _⟩ := ins_get I.hok h
  obtain ⟨od, J, _⟩ := J.look
  obtain ⟨m, hF⟩ := I.fr
  have hsp : spO R [.ref a, y] H (fun v H' => ∃ r, v = .bl r ∧ (r = b ∧ Ext H H')) E := ⟨a, y, b, rfl, r, fun H' e => ⟨b, rfl, rfl, e⟩⟩
  refine PySem.W.cmp_K (op := .Eq) sb.room.units0 hF I.ok.mod.kin J (Z.ty _ _ I.kIn p) nf O.eq O.fn ?_
  refine wpAny_mono (own_callee (Q := fun r H' => r = b ∧ Ext H H') F hb hx sb.room sb.fr I (x := .ref a) rfl ry hsp) (fun w s' k => ?_) fun _ _ k => k
  obtain ⟨r, rfl, H', I', rfl, e⟩ := k
  exact ⟨rfl, H', I', e⟩
theorem rcB_right (F : FnOk X.prog X.w X.K X.mg X.base CX n f fd ps (spO R)) (O : OwnE X.K C f) (hb : Binds X.K fd ps []) (hx : Passes CX X E) {A : Around} {pins : List (Addr × Obj)} {s : Shared} {σ : L2.St} {H : Hp} {a dx : Addr} {fs : List (Str × V)} {x : V} {u : Value} {b : Bool} {T : String}
    (sb : Sub X n A) (I : Inv X pins σ H s) (rx : RelV x u) (h : H a = some (.ins C dx fs)) (ty : BackV X.K H x T) (hs : PySem.W.subIn X.K (.ref C) (.type T) = some false) (r : R a x b H) :
    wpAny (model X.prog X.w) A (richCompare .Eq u (.ref a)) (fun w s' => w = .bool b ∧ ∃ H', Inv X pins σ H' s' ∧ Ext H H') X.xe s := by
  obtain ⟨mA, J0, _⟩ := ins_get I.hok h
  obtain ⟨od, J, _⟩ := J0.look
  obtain ⟨m, hF⟩ := I.fr
  have hget := J.1
  have sub : PySem.W.Looks (model X.prog X.w) s.heap (isInstance (.ref a) (.type T)) false := J.type.andThen (PySem.W.looks_subIn I.kIn hs)
  have hsp : spO R [.ref a, x] H (fun v H' => ∃ r, v = .bl r ∧ (r = b ∧ Ext H H')) E := ⟨a, x, b, rfl, r, fun H' e => ⟨b, rfl, rfl, e⟩⟩
  have fin : wpAny (model X.prog X.w) A (call (.ref f) [.ref a, u]) (PySem.W.CmpBack fun w s' => w = .bool b ∧ ∃ H', Inv X pins σ H' s' ∧ Ext H H') X.xe s := by
    refine wpAny_mono (own_callee (Q := fun r H' => r = b ∧ Ext H H') F hb hx sb.room sb.fr I (x := .ref a) rfl rx hsp) (fun w s' k => ?_) fun _ _ k => k
    obtain ⟨r, rfl, H', I', rfl, e⟩ := k
    exact ⟨rfl, H', I', e⟩
  cases ty with
  | non =>
    cases (show u = Value.none from rx)
    exact rc_back sb.room.units0 hF I.ok.mod.kin (typeIs_none s) PySem.F.slot_NoneType_eq J hs rfl (dec_non hget) O.eq O.fn fin
  | bl y =>
    cases (show u = Value.bool y from rx)
    exact rc_back sb.room.units0 hF I.ok.mod.kin (PySem.typeIs_bool s y) PySem.F.slot_bool_eq J hs rfl (dec_bool hget) O.eq O.fn fin
  | int i =>
    obtain ⟨t, rfl⟩ := (show ∃ t, u = Value.int i t from rx)
    exact rc_back sb.room.units0 hF I.ok.mod.kin (typeIs_int s i t) PySem.F.slot_int_eq J hs rfl (dec_int hget) O.eq O.fn fin
  | str y =>
    obtain ⟨t, rfl⟩ := (show ∃ t, u = Value.str y t from rx)
    exact rc_back sb.room.units0 hF I.ok.mod.kin (typeIs_str s y t) PySem.F.slot_str_eq J hs rfl (dec_str hget) O.eq O.fn fin
  | @tup c xs h2 =>
    cases (show u = Value.ref c from rx)
    obtain ⟨its, rv, ⟨o, ho, hc, _⟩, _⟩ := I.tuple h2
    exact rc_back sb.room.units0 hF I.ok.mod.kin ⟨o, ho, hc⟩ PySem.F.slot_tuple_eq J hs rfl (dec_tup ⟨o, ho, hc⟩ sub) O.eq O.fn fin
  | @lst c xs h2 =>
    cases (show u = Value.ref c from rx)
    obtain ⟨its, rv, ⟨o, n, ho, hc, _⟩, _⟩ := I.list (SqL.of h2 : SqL X.K H c xs)
    exact rc_back sb.room.units0 hF I.ok.mod.kin ⟨o, ho, hc⟩ PySem.F.slot_list_eq J hs rfl (dec_lst ⟨o, ho, hc⟩ sub) O.eq O.fn fin
  | @dK c kvs h2 =>
    cases (show u = Value.ref c from rx)
    obtain ⟨_, _, vs, _, o, es, ep, h1, h2', _⟩ := (show ObjOk X.prog X.w H s.heap c (.dK kvs) from I.hok c _ h2)
    exact rc_back sb.room.units0 hF I.ok.mod.kin ⟨o, h1, h2'.1⟩ PySem.F.slot_dict_eq J hs rfl (dec_dict ⟨o, h1, h2'.1⟩ sub) O.eq O.fn fin
theorem eqB_ow (F : FnOk X.prog X.w X.K X.mg X.base CX n f fd ps (spO R)) (O : OwnE X.K C f) (hb : Binds X.K fd ps []) (hx : Passes CX X E) : EqB X n (DOw X.K C R) := by
  intro A pins s σ H x y u v b sb I rx ry d
  have bk : ∀ {t : Sem Value}, wpAny (model X.prog X.w) A t (fun w s' => w = .bool b ∧ ∃ H', Inv X pins σ H' s' ∧ Ext H H') X.xe s → wpAny (model X.prog X.w) A t (fun v s' => ∃ r, v = .bool r ∧ (r = b ∧ ∃ H', Inv X pins σ H' s' ∧ Ext H H')) X.xe s := fun {t} h =>
    wpAny_mono h (fun w s' q => ⟨b, q.1, rfl, q.2⟩) fun _ _ e => e
  cases d with
  | same =>
    cases (show u = Value.ref _ from rx)
    cases (show v = Value.ref _ from ry)
    exact SeqAt.EqAt.same (A := A) (s := s) (.ref _) X.prog X.w X.xe _ ⟨rfl, H, I, Ext.rfl'⟩
  | @left a dx fs _ _ tb _ h ty nf ne r =>
    cases (show u = Value.ref a from rx)
    exact eqBool_left (rel_ne ry ne) (bk (rcB_left F O hb hx sb I ry h ty nf r))
  | @right a dx fs _ _ T _ h ty hs ne r =>
    cases (show v = Value.ref a from ry)
    exact eqBool_right (rel_ne rx ne) (bk (rcB_right F O hb hx sb I rx h ty hs r))
  | flat hx hy => exact eqAt_V rx ry hx hy X.prog X.w X.xe _ ⟨rfl, H, I, Ext.rfl'⟩
/-- x == y with an own instance on either side -/
def rEqO (K : PySem.W.Frag) (C : Addr) (R : Addr → V → Bool → Hp → Prop) (g : Bool → Bool) : R2 := fun x y H Q => ∃ b, ((∃ a dx fs tb, x = .ref a ∧ H a = some (.ins C dx fs) ∧ TyX K H y tb ∧ PySem.W.notFirst K C tb = true ∧ R a y b H) ∨
  (∃ a dx fs T, y = .ref a ∧ H a = some (.ins C dx fs) ∧ BackV K H x T ∧ PySem.W.subIn K (.ref C) (.type T) = some false ∧ R a x b H)) ∧ ∀ H', Ext H H' → Q (.bl (g b)) H'
theorem op_eqO (F : FnOk X.prog X.w X.K X.mg X.base CX n f fd ps (spO R)) (O : OwnE X.K C f) (hb : Binds X.K fd ps []) (hx : Passes CX X E) (hr : Room n X.A) : OpR X (compareOp .Eq) (rEqO X.K C R id) := by
  intro pins s σ H x y u v Q I rx ry hq
  obtain ⟨b, h, q⟩ := hq
  show wpAny (model X.prog X.w) X.A (richCompare .Eq u v) (EP X pins σ Q) X.xe s
  rcases h with ⟨a, dx, fs, tb, rfl, ha, ty, nf, r⟩ | ⟨a, dx, fs, T, rfl, ha, ty, hs, r⟩
  · cases (show u = Value.ref a from rx)
    refine wpAny_mono (rcB_left F O hb hx ⟨hr, rfl⟩ I ry ha ty nf r) (fun w s' k => ?_) fun _ _ e => e
    obtain ⟨rfl, H', I', e⟩ := k
    exact ⟨.bl b, H', I', rfl, q H' e⟩
  · cases (show v = Value.ref a from ry)
    refine wpAny_mono (rcB_right F O hb hx ⟨hr, rfl⟩ I rx ha ty hs r) (fun w s' k => ?_) fun _ _ e => e
    obtain ⟨rfl, H', I', e⟩ := k
    exact ⟨.bl b, H', I', rfl, q H' e⟩
end

/-! ### rows -/
section
variable {X : Cx} {n : Nat} {D : Eqb}
def LoopJ (X : Cx) (pins : List (Addr × Obj)) (σ : L2.St) (H : Hp) (s' : Shared) : Prop := ∃ H', Inv X pins σ H' s' ∧ Ext H H'
theorem rowB (hD : MonB D) (h : EqB X n D) {A : Around} (sb : Sub X (n + 1) A) {pins : List (Addr × Obj)} {σ : L2.St} {H : Hp} {l : Addr} {xs : List V} {y : V} {v : Value} {e : Nat → Bool} (ry : RelV y v) (hl : H l = some (.lst xs)) (hd : ∀ i x, xs[i]? = some x → D x y (e i) H) :
    RowI X.prog X.w A X.xe l v xs.length e (fun _ s' => LoopJ X pins σ H s') := by
  rintro i s ⟨H1, I1, e1⟩
  obtain ⟨z, its, k, r, ho⟩ := I1.hok l _ (e1 _ _ hl)
  refine ⟨its.toArray, k, ho, by rw [List.size_toArray, ← r.length], fun h1 => ?_⟩
  have h1' : i < its.length := by simpa using h1
  have k1 : i < xs.length := by rw [r.length]; exact h1'
  obtain ⟨u, hu, ru⟩ := r.get (List.getElem?_eq_getElem k1)
  have g1 : its[i]? = some its.toArray[i] := by rw [List.getElem?_eq_getElem h1'] <;> simp
  rw [g1] at hu
  rw [Option.some.inj hu]
  refine wpAny_mono (h A.in1 pins s σ H1 _ y u v (e i) sb.in1 I1 ru ry (hD _ _ _ _ _ e1 (hd i _ (List.getElem?_eq_getElem k1)))) (fun r s2 q => ?_) fun _ _ x => x
  obtain ⟨hr, H2, I2, e2⟩ := q
  exact ⟨hr, H2, I2, e1.trans e2⟩
/-- y in xs, xs a list -/
def rInB (D : Eqb) (g : Bool → Bool) : R2 := fun y x H Q => ∃ (l : Addr) (xs : List V) (e : Nat → Bool), x = .ref l ∧ H l = some (.lst xs) ∧ (∀ i z, xs[i]? = some z → D z y (e i) H) ∧ ∀ H', Ext H H' → Q (.bl (g ((List.range xs.length).any e))) H'
theorem call_contains (hD : MonB D) (h : EqB X n D) (hr : Room (n + 1) X.A) {pins : List (Addr × Obj)} {s : Shared} {σ : L2.St} {H : Hp} {l : Addr} {xs : List V} {y : V} {v : Value} {e : Nat → Bool} {Q : Value → Shared → Prop} (I : Inv X pins σ H s) (ry : RelV y v) (hl : H l = some (.lst xs))
    (hd : ∀ i x, xs[i]? = some x → D x y (e i) H) (hQ : ∀ H' s', Inv X pins σ H' s' → Ext H H' → Q (.bool ((List.range xs.length).any e)) s') : wpAny (model X.prog X.w) X.A (call (.builtin "list.__contains__") [.ref l, v]) Q X.xe s := by
  obtain ⟨z, its, k, r, ho⟩ := I.hok l _ hl
  refine GQ.call_here PySem.F.slot_list_contains ⟨_, ho, rfl⟩ PySem.F.entry_list_contains (PySem.F.args_list_contains_2 _ _) ?_
  refine list_containsG (R := wants Q X.xe) l v xs.length e (fun _ s' => LoopJ X pins σ H s') (rowB hD h ⟨hr, rfl⟩ ry hl hd) (fun i s' q => ?_) ⟨H, I, Ext.rfl'⟩
  obtain ⟨H', I', e'⟩ := q
  exact hQ H' s' I' e'
theorem op_inB (hD : MonB D) (h : EqB X n D) (hr : Room (n + 1) X.A) : OpR X (compareOp .In) (rInB D id) := by
  intro pins s σ H y x v u Q I ry rx hq
  obtain ⟨l, xs, e, rfl, hl, hd, q⟩ := hq
  cases (show u = Value.ref l from rx)
  obtain ⟨z, its, k, r, ho⟩ := I.hok l _ hl
  show wpAny (model X.prog X.w) X.A (do return Value.bool (← contains (.ref l) v)) (EP X pins σ Q) X.xe s
  refine wpAny_bind (PySem.wpAny_contains_slot ⟨_, ho, rfl⟩ PySem.F.slot_list_contains (call_contains hD h hr I ry hl hd fun H' s' I' e' => wpAny_truthy_bool (wpAny_pure ⟨.bl _, H', I', rfl, q H' e'⟩)))
theorem op_notInB (hD : MonB D) (h : EqB X n D) (hr : Room (n + 1) X.A) : OpR X (compareOp .NotIn) (rInB D not) := by
  intro pins s σ H y x v u Q I ry rx hq
  obtain ⟨l, xs, e, rfl, hl, hd, q⟩ := hq
  cases (show u = Value.ref l from rx)
  obtain ⟨z, its, k, r, ho⟩ := I.hok l _ hl
  show wpAny (model X.prog X.w) X.A (do return Value.bool (!(← contains (.ref l) v))) (EP X pins σ Q) X.xe s
  refine wpAny_bind (PySem.wpAny_contains_slot ⟨_, ho, rfl⟩ PySem.F.slot_list_contains (call_contains hD h hr I ry hl hd fun H' s' I' e' => wpAny_truthy_bool (wpAny_pure ⟨.bl _, H', I', rfl, q H' e'⟩)))
/-- xs.count(y) -/
def rCntO (D : Eqb) : V → List V → Hp → VK → Prop := fun x ys H Q => ∃ (l : Addr) (xs : List V) (y : V) (e : Nat → Bool), x = .ref l ∧ ys = [y] ∧ H l = some (.lst xs) ∧ (∀ i z, xs[i]? = some z → D z y (e i) H) ∧ ∀ H', Ext H H' → Q (.int ((List.range xs.length).countP e : Nat)) H'
theorem mt_countO (hD : MonB D) (h : EqB X n D) (hr : Room (n + 1) X.A) : MtR X "list.count" (rCntO D) := by
  intro pins s σ H x ys u us Q I rx rxs hq
  obtain ⟨l, xs, y, e, rfl, rfl, hl, hd, q⟩ := hq
  cases (show u = Value.ref l from rx)
  obtain ⟨v, rfl, rv⟩ := rxs.one
  obtain ⟨z, its, k, r, ho⟩ := I.hok l _ hl
  refine GQ.call_here PySem.F.slot_list_count ⟨_, ho, rfl⟩ PySem.F.entry_list_count (PySem.F.args_list_count_2 _ _) ?_
  refine list_countG (R := wants (EP X pins σ Q) X.xe) l v xs.length e (fun _ s' => LoopJ X pins σ H s') (rowB hD h ⟨hr, rfl⟩ rv hl hd) (fun s' q' => ?_) ⟨H, I, Ext.rfl'⟩
  obtain ⟨H', I', e'⟩ := q'
  exact ⟨.int _, H', I'.tok _, ⟨s'.toks, rfl⟩, q H' e'⟩
/-- two tuples of one length -/
def rEqTB (K : PySem.W.Frag) (D : Eqb) : R2 := fun x y H Q => ∃ (a b : Addr) (xs ys : List V) (e : Nat → Bool), x = .ref a ∧ y = .ref b ∧ SqT K H a xs ∧ SqT K H b ys ∧ xs.length = ys.length ∧ (∀ i p q, xs[i]? = some p → ys[i]? = some q → D p q (e i) H) ∧
  ∀ H', Ext H H' → Q (.bl ((List.range xs.length).all e)) H'
theorem op_eqTB (hD : MonB D) (h : EqB X n D) (hr : Room (n + 1) X.A) : OpR X (compareOp .Eq) (rEqTB X.K D) := by
  intro pins s σ H x y u v Q I rx ry hq
  obtain ⟨a, b, xs, ys, e, rfl, rfl, ha, hb, hl, hd, q⟩ := hq
  cases (show u = Value.ref a from rx)
  cases (show v = Value.ref b from ry)
  show wpAny (model X.prog X.w) X.A (richCompare .Eq (.ref a) (.ref b)) (EP X pins σ Q) X.xe s
  obtain ⟨its, r, ⟨⟨cls, dd, data, sl⟩, ho, hc, k1, hd1⟩, _⟩ := I.tuple ha
  obtain ⟨its2, r2, ⟨⟨cls2, dd2, data2, sl2⟩, ho2, hc2, k2, hd2⟩, _⟩ := I.tuple hb
  simp only at hc hd1 hc2 hd2
  subst hc hd1 hc2 hd2
  have hsz : its.toArray.size = its2.toArray.size := by rw [List.size_toArray, List.size_toArray, ← r.length, ← r2.length]; exact hl
  have hN : its.toArray.size = xs.length := by rw [List.size_toArray, ← r.length]
  refine wpAny_richCompare_same_room (op := .Eq) ⟨_, ho, rfl⟩ ⟨_, ho2, rfl⟩ PySem.F.slot_tuple_eq (GQ.call_here PySem.F.slot_tuple_eq ⟨_, ho, rfl⟩ PySem.F.entry_tuple_eq (PySem.F.args_tuple_eq_2 _ _) ?_) hr.units0
  refine tuple_eqG2 (R := wants (fun v s' => v ≠ .notImplemented ∧ EP X pins σ Q v s') X.xe) a b its.toArray its2.toArray k1 k2 dd dd2 sl sl2 hsz e (fun _ s' => LoopJ X pins σ H s') (fun i h1 h2 s' l => ?_) (fun i s' l => ?_) ho ho2 ⟨H, I, Ext.rfl'⟩
  · obtain ⟨H1, I1, e1⟩ := l
    have h1' : i < its.length := by simpa using h1
    have h2' : i < its2.length := by simpa using h2
    have q1 : i < xs.length := by rw [r.length]; exact h1'
    have q2 : i < ys.length := by rw [r2.length]; exact h2'
    obtain ⟨u, hu, ru⟩ := r.get (List.getElem?_eq_getElem q1)
    obtain ⟨v, hv, rv⟩ := r2.get (List.getElem?_eq_getElem q2)
    have g1 : its[i]? = some its.toArray[i] := by rw [List.getElem?_eq_getElem h1'] <;> simp
    have g2 : its2[i]? = some its2.toArray[i] := by rw [List.getElem?_eq_getElem h2'] <;> simp
    rw [g1] at hu
    rw [g2] at hv
    rw [Option.some.inj hu, Option.some.inj hv]
    refine wpAny_mono (h X.A.in1 pins s' σ H1 _ _ u v (e i) (Sub.in1 ⟨hr, rfl⟩) I1 ru rv (hD _ _ _ _ _ e1 (hd i _ _ (List.getElem?_eq_getElem q1) (List.getElem?_eq_getElem q2)))) (fun r s2 q => ?_) fun _ _ x => x
    obtain ⟨hr', H2, I2, e2⟩ := q
    exact ⟨hr', H2, I2, e1.trans e2⟩
  · obtain ⟨H1, I1, e1⟩ := l
    rw [hN]
    exact ⟨(fun x => nomatch x), .bl _, H1, I1, rfl, q H1 e1⟩
end
end Rp
namespace K
open PySem L2 Rp
/-! ### the text by places -/
def top (i : Nat) : Stmt := PySem.Challenge.pw_casknotes_k04_weights_by_their_words.main.body.getD i (.Pass ⟨0, 0, 0, 0⟩)
abbrev sShow : Stmt := top 10
abbrev sWhole : Stmt := top 12
abbrev sInit : Stmt := inClass (top 14) 0
abbrev sEq : Stmt := inClass (top 14) 1
abbrev sStr : Stmt := inClass (top 14) 2
abbrev sRepr : Stmt := inClass (top 14) 3
abbrev sDeck : Stmt := top 16
abbrev sDraw : Stmt := top 17
abbrev sLWhole : Stmt := top 18
abbrev sDiv : Stmt := top 19
abbrev sTwo : Stmt := top 20
abbrev sLow : Stmt := top 21
abbrev sIs : Stmt := top 22
abbrev sWritten : Stmt := top 23
abbrev sShown : Stmt := top 24
abbrev sAlone : Stmt := top 25
abbrev sTwoR : Stmt := top 26
abbrev sLaw : Stmt := top 27

/-! ### decks -/
def DeckAt (H : Hp) (d : Addr) : Prop := ∃ a b c : Int, H d = some (.lst [.int a, .int b, .int c])

/-! ### promises -/
def spWhole (K : PySem.W.Frag) : Sp := fun vs H Q _ => ∃ n : Int, vs = [.int n] ∧ Q (.bl true) H
def spDeck : Sp := fun vs H Q _ => ∃ n : Int, vs = [.int n] ∧ ∀ p, H p = none → ∀ H', DeckAt H' p → (∀ b, b ≠ p → H' b = H b) → Q (.ref p) H'
def spDraw : Sp := fun vs H Q _ => ∃ (d : Addr) (m : Int), vs = [.ref d, .int m] ∧ 0 < m ∧ m < 1073741824 ∧ DeckAt H d ∧ ∀ r : Int, 0 ≤ r → r < m → ∀ H', DeckAt H' d → (∀ b, b ≠ d → H' b = H b) → Q (.int r) H'

/-- what the built-in names hold -/
structure Blt (mg : Str → Option Value) : Prop where
  isi : mg "isinstance" = none
  int : mg "int" = none
  bool : mg "bool" = none

section
variable {P : Program} {w : World} {K : PySem.W.Frag} {mg : Str → Option Value} {base : Heap}
theorem scWhole : FnScope ["thing"] ["thing"] (defScope sWhole) := ⟨rfl, rfl, rfl, by decide +kernel, rfl, by decide +kernel, by decide +kernel⟩
theorem ok_whole {f : Addr} {fd : FuncData} (F : Fun K "is_whole" "is_whole" sWhole f fd) (B : Blt mg) : FnOk P w K mg base CX0 1 f fd ["thing"] (spWhole K) := by
  refine F.ok scWhole (fun vs H Q E h => ?_) (fun cdv A outer s H vs Q E hr h => ?_)
  · obtain ⟨n, rfl, _⟩ := h
    rfl
  · obtain ⟨n, rfl, k⟩ := h
    refine ⟨_, pss_one (ps_ret (pe_and (pe_callB call_isi (by rfl) B.isi (by decide +kernel) (pa_cons (pv 0) (pa_cons (pe_bltn (v := .ty "int") (by rfl) B.int (by decide +kernel) rfl) pa_nil)))
      (pe_one (pe_not (pe_callB call_isi (by rfl) B.isi (by decide +kernel) (pa_cons (pv 0) (pa_cons (pe_bltn (v := .ty "bool") (by rfl) B.bool (by decide +kernel) rfl) pa_nil))))))), ?_⟩
    refine ⟨_, rfl, _, .ty "int", _, _, true, rfl, .ty _, .base (.int _), kit_ty (by decide +kernel), true, rfl, ?_⟩
    refine iteT ?_
    refine ⟨_, rfl, _, .ty "bool", _, _, false, rfl, .ty _, .base (.int _), kit_ty (by decide +kernel), false, rfl, ?_⟩
    exact k
theorem scLWhole : FnScope ["_law_thing"] ["_law_thing"] (defScope sLWhole) := ⟨rfl, rfl, rfl, by decide +kernel, rfl, by decide +kernel, by decide +kernel⟩
theorem ok_lwhole {f : Addr} {fd : FuncData} (F : Fun K "_law_whole" "_law_whole" sLWhole f fd) (B : Blt mg) : FnOk P w K mg base CX0 1 f fd ["_law_thing"] (spWhole K) := by
  refine F.ok scLWhole (fun vs H Q E h => ?_) (fun cdv A outer s H vs Q E hr h => ?_)
  · obtain ⟨n, rfl, _⟩ := h
    rfl
  · obtain ⟨n, rfl, k⟩ := h
    refine ⟨_, pss_one (ps_ret (pe_and (pe_callB call_isi (by rfl) B.isi (by decide +kernel) (pa_cons (pv 0) (pa_cons (pe_bltn (v := .ty "int") (by rfl) B.int (by decide +kernel) rfl) pa_nil)))
      (pe_one (pe_not (pe_callB call_isi (by rfl) B.isi (by decide +kernel) (pa_cons (pv 0) (pa_cons (pe_bltn (v := .ty "bool") (by rfl) B.bool (by decide +kernel) rfl) pa_nil))))))), ?_⟩
    refine ⟨_, rfl, _, .ty "int", _, _, true, rfl, .ty _, .base (.int _), kit_ty (by decide +kernel), true, rfl, ?_⟩
    refine iteT ?_
    refine ⟨_, rfl, _, .ty "bool", _, _, false, rfl, .ty _, .base (.int _), kit_ty (by decide +kernel), false, rfl, ?_⟩
    exact k
end
end K
namespace K
open PySem L2 Rp
section
variable {P : Program} {w : World} {K : PySem.W.Frag} {mg : Str → Option Value} {base : Heap}
theorem scDeck : FnScope ["_law_cell"] ["_law_cell"] (defScope sDeck) := ⟨rfl, rfl, rfl, by decide +kernel, rfl, by decide +kernel, by decide +kernel⟩
theorem ok_deck {f : Addr} {fd : FuncData} (F : Fun K "_law_deck" "_law_deck" sDeck f fd) (B : Blt mg) : FnOk P w K mg base CX0 1 f fd ["_law_cell"] spDeck := by
  refine F.ok scDeck (fun vs H Q E h => ?_) (fun cdv A outer s H vs Q E hr h => ?_)
  · obtain ⟨n, rfl, _⟩ := h
    rfl
  · obtain ⟨n, rfl, k⟩ := h
    refine ⟨_, pss_one (ps_ret (pe_lst (pa_cons (pe_op op_mul (pv 0) (pe_callTy call_int1 (by rfl) B.int (by decide +kernel) (pa_cons (pe_cmpR op_ge (pv 0) (pe_op op_pow pe_int pe_int) (nomark _)) pa_nil)))
      (pa_cons (pe_op op_mod (pv 0) pe_int) (pa_cons pe_int pa_nil))))), ?_⟩
    refine ⟨_, rfl, _, rfl, _, _, rfl, rfl, (by show (0:Int) ≤ 18 ∧ (18:Int) ≤ 1000000 ∧ (10:Int).natAbs < 2 ^ 64; decide), _, _, rfl, rfl, .inr ⟨_, rfl, ?_⟩⟩
    refine ⟨_, _, rfl, rfl, .inr (by split <;> decide), ?_⟩
    refine ⟨_, rfl, _, _, rfl, rfl, (by show (0:Int) < 2147483587; decide), ?_⟩
    refine ⟨(by show 3 ≤ sizeLine; decide), fun p hp => ?_⟩
    exact k p hp _ ⟨_, _, _, upd_same⟩ fun b hb => upd_ne hb
theorem scDraw : FnScope ["_law_deck_here", "_law_most", "_law_got", "_law_mixed"] ["_law_deck_here", "_law_most"] (defScope sDraw) := ⟨rfl, rfl, rfl, by decide +kernel, rfl, by decide +kernel, by decide +kernel⟩
theorem ix3 {a b c : V} : atI [a, b, c] (0 : Int) = some a ∧ atI [a, b, c] (1 : Int) = some b ∧ atI [a, b, c] (2 : Int) = some c := ⟨rfl, rfl, rfl⟩
theorem ok_draw {f : Addr} {fd : FuncData} (F : Fun K "_law_draw" "_law_draw" sDraw f fd) : FnOk P w K mg base CX0 1 f fd ["_law_deck_here", "_law_most"] spDraw := by
  refine F.ok scDraw (fun vs H Q E h => ?_) (fun cdv A outer s H vs Q E hr h => ?_)
  · obtain ⟨d, m, rfl, _⟩ := h
    rfl
  · obtain ⟨d, m, rfl, h0, h1, ⟨a, b, c, hd⟩, k⟩ := h
    refine ⟨_, pss_cons (ps_if (pt_cmpR op_gt (pe_ix ix_list (pv 0) pe_int (fun _ _ => rfl)) pe_int (nomark _))
        (pss_cons (ps_set (i := 2) scDraw.nd rfl (Or.inl rfl) (pe_op op_modN (pe_ix ix_list (pv 0) pe_int (fun _ _ => rfl)) (pv 1)))
        (pss_cons (ps_asg (pe_op op_fdivN (pe_ix ix_list (pv 0) pe_int (fun _ _ => rfl)) (pv 1)) (pg_sub (pv 0) pe_int set_list))
        (pss_one (ps_ret (pv 2))))) pss_nil)
      (pss_cons (ps_asg (pe_op op_add (pe_ix ix_list (pv 0) pe_int (fun _ _ => rfl)) pe_int) (pg_sub (pv 0) pe_int set_list))
      (pss_cons (ps_set (i := 3) scDraw.nd rfl (Or.inl rfl) (pe_op op_mod (pe_op op_mul (pe_op op_add (pe_op op_add (pe_ix ix_list (pv 0) pe_int (fun _ _ => rfl)) (pe_op op_mul pe_int (pe_ix ix_list (pv 0) pe_int (fun _ _ => rfl)))) pe_int) pe_int) pe_int))
      (pss_cons (ps_set (i := 3) scDraw.nd rfl (Or.inl rfl) (pe_op op_mod (pe_op op_add (pe_op op_add (pe_op op_mul (pv 3) (pv 3)) (pe_op op_mul pe_int (pv 3))) (pe_ix ix_list (pv 0) pe_int (fun _ _ => rfl))) pe_int))
      (pss_one (ps_ret (pe_op op_modN (pe_op op_fdiv (pe_op op_mod (pe_op op_mul (pv 3) pe_int) pe_int) pe_int) (pv 1))))))), ?_⟩
    refine ⟨_, rfl, d, _, _, _, rfl, rfl, SqL.of hd, ix3.1, _, _, rfl, rfl, _, rfl, ?_⟩
    refine ite2 (fun _ => ?_) (fun _ => ?_)
    · refine ⟨_, rfl, d, _, _, _, rfl, rfl, SqL.of hd, ix3.1, _, rfl, _, _, rfl, rfl, (by show m ≠ 0; omega), ?_⟩
      refine ⟨_, rfl, d, _, _, _, rfl, rfl, SqL.of hd, ix3.1, _, rfl, _, _, rfl, rfl, ⟨by omega, by omega⟩, ?_⟩
      refine ⟨_, rfl, d, _, _, 0, rfl, rfl, hd, rfl, ?_⟩
      refine ⟨_, rfl, ?_⟩
      exact k _ (Int.fmod_nonneg_of_pos a h0) (Int.fmod_lt_of_pos a h0) _ ⟨_, _, _, upd_same⟩ fun b hb => upd_ne hb
    · refine ⟨_, rfl, d, _, _, _, rfl, rfl, SqL.of hd, ix3.2.2, _, _, rfl, rfl, ?_⟩
      refine ⟨_, rfl, d, _, _, 2, rfl, rfl, hd, rfl, ?_⟩
      have hd2 : (upd H d (.lst ([V.int a, V.int b, V.int c].set 2 (.int (c + 1))))) d = some (.lst [.int a, .int b, .int (c + 1)]) := upd_same
      refine ⟨_, rfl, d, _, _, _, rfl, rfl, SqL.of hd2, ix3.2.1, _, rfl, d, _, _, _, rfl, rfl, SqL.of hd2, ix3.2.2, _, _, rfl, rfl, .inl (by decide), _, _, rfl, rfl, _, _, rfl, rfl, _, _, rfl, rfl, .inr (by decide), _, _, rfl, rfl, (by show (0:Int) < 2147483647; decide), ?_⟩
      refine ⟨_, rfl, _, rfl, _, _, rfl, rfl, .inl ⟨by omega, by omega⟩, _, rfl, _, _, rfl, rfl, .inl (by decide), _, _, rfl, rfl, _, rfl, d, _, _, _, rfl, rfl, SqL.of hd2, ix3.2.2, _, _, rfl, rfl, _, _, rfl, rfl, (by show (0:Int) < 2147483629; decide), ?_⟩
      refine ⟨_, rfl, _, _, rfl, rfl, .inr (by decide), _, _, rfl, rfl, (by show (0:Int) < 2147483563; decide), _, _, rfl, rfl, ⟨by decide, by decide⟩, _, rfl, _, _, rfl, rfl, (by show m ≠ 0; omega), ?_⟩
      exact k _ (Int.fmod_nonneg_of_pos _ h0) (Int.fmod_lt_of_pos _ h0) _ ⟨_, _, _, hd2⟩ fun b hb => upd_ne hb
end
end K
namespace K
open PySem L2 Rp
/-! ### the law's own gcd -/
theorem gcd_turn {c d : Int} (hc : 0 ≤ c) (hd : 0 ≤ d) : Int.gcd d (c % d) = Int.gcd c d := by
  obtain ⟨m, rfl⟩ := Int.eq_ofNat_of_zero_le hc
  obtain ⟨n, rfl⟩ := Int.eq_ofNat_of_zero_le hd
  show Nat.gcd n (m % n) = Nat.gcd m n
  rw [Nat.gcd_comm n, ← Nat.gcd_rec, Nat.gcd_comm]
def spDiv : Sp := fun vs H Q _ => ∃ a b : Int, vs = [.int a, .int b] ∧ 0 ≤ a ∧ 0 ≤ b ∧ Q (.int (Int.gcd a b : Nat)) H
section
variable {P : Program} {w : World} {K : PySem.W.Frag} {mg : Str → Option Value} {base : Heap}
theorem scDiv : FnScope ["_law_one", "_law_other"] ["_law_one", "_law_other"] (defScope sDiv) := ⟨rfl, rfl, rfl, by decide +kernel, rfl, by decide +kernel, by decide +kernel⟩
theorem ok_div {f : Addr} {fd : FuncData} (F : Fun K "_law_divides" "_law_divides" sDiv f fd) (hab : mg "abs" = none) : FnOk P w K mg base CX0 1 f fd ["_law_one", "_law_other"] spDiv := by
  refine F.ok scDiv (fun vs H Q E h => ?_) (fun cdv A outer s H vs Q E hr h => ?_)
  · obtain ⟨a, b, rfl, _⟩ := h
    rfl
  · obtain ⟨a, b, rfl, ha, hb, k⟩ := h
    refine ⟨_, pss_cons (ps_par (i := 0) (j := 1) rfl scDiv.nd rfl rfl (by decide) rfl rfl (pa_cons (pe_callB call_abs (by rfl) hab (by decide +kernel) (pa_cons (pv 0) pa_nil)) (pa_cons (pe_callB call_abs (by rfl) hab (by decide +kernel) (pa_cons (pv 1) pa_nil)) pa_nil)) (by rfl))
      (pss_cons (ps_while PassesOwn.never (pt_cmpR op_gt (pv 1) pe_int (nomark _)) (pss_one (ps_par (i := 0) (j := 1) rfl scDiv.nd rfl rfl (by decide) rfl rfl (pa_cons (pv 1) (pa_cons (pe_op op_modN (pv 0) (pv 1)) pa_nil)) (by rfl))))
      (pss_one (ps_ret (pv 0)))), ?_⟩
    refine ⟨_, rfl, _, rfl, _, rfl, _, rfl, _, _, rfl, ?_⟩
    rw [if_neg (show ¬ a < 0 by omega), if_neg (show ¬ b < 0 by omega)]
    refine while_by (fun σ H' => H' = H ∧ ∃ c d : Int, σ = [some (.int c), some (.int d)] ∧ 0 ≤ c ∧ 0 ≤ d ∧ Int.gcd c d = Int.gcd a b) (fun σ _ => match σ with | [_, some (.int d)] => d.toNat | _ => 0)
      ⟨rfl, a, b, rfl, ha, hb, rfl⟩ ?_ ?_
    · rintro σ H' ⟨rfl, c, d, rfl, hc, hd, hg⟩
      refine ⟨_, rfl, _, _, rfl, rfl, _, rfl, ?_⟩
      refine ite2 (fun h => ?_) (fun h => ?_)
      · have h' : 0 < d := by simpa using h
        refine ⟨_, rfl, _, rfl, _, rfl, _, _, rfl, rfl, (by show d ≠ 0; omega), _, _, rfl, ?_⟩
        have e : c.fmod d = c % d := Int.fmod_eq_emod_of_nonneg c (by omega)
        have e0 := Int.emod_nonneg c (by omega : d ≠ 0)
        have e1 := Int.emod_lt_of_pos c h'
        refine ⟨⟨rfl, d, c.fmod d, rfl, by omega, by omega, ?_⟩, ?_⟩
        · rw [← hg, e]
          exact gcd_turn hc hd
        · show (c.fmod d).toNat < d.toNat
          omega
      · have h' : d = 0 := by
          have : ¬ 0 < d := by simpa using h
          omega
        subst h'
        refine ⟨_, rfl, ?_⟩
        have e : c = ((Int.gcd a b : Nat) : Int) := by rw [← hg, Int.gcd_zero_right]; omega
        rw [e]
        exact k
    · rintro σ H' Q1 Q2 hQ ⟨v, e, i, j, h1, h2, c, h3, q⟩
      exact ⟨v, e, i, j, h1, h2, c, h3, hQ _ _ q⟩
end
end K
namespace K
open PySem L2 Rp
/-! ### sizes -/
/-- below 2 ^ m in size -/
def Sz (m : Nat) (x : Int) : Prop := x.natAbs < 2 ^ m
theorem Sz.mono {a b : Nat} {x : Int} (h : Sz a x) (hab : a ≤ b) : Sz b x := Nat.lt_of_lt_of_le h (Nat.pow_le_pow_right (by decide) hab)
theorem Sz.mul {a b : Nat} {x y : Int} (hx : Sz a x) (hy : Sz b y) : Sz (a + b) (x * y) := wide_lt hx hy
theorem Sz.add {a : Nat} {x y : Int} (hx : Sz a x) (hy : Sz a y) : Sz (a + 1) (x + y) := by
  have h := Int.natAbs_add_le x y
  unfold Sz at *
  rw [Nat.pow_succ]
  omega
theorem Sz.sub {a : Nat} {x y : Int} (hx : Sz a x) (hy : Sz a y) : Sz (a + 1) (x - y) := by
  have h := Int.natAbs_sub_le x y
  unfold Sz at *
  rw [Nat.pow_succ]
  omega
theorem Sz.div {a : Nat} {x : Int} (hx : Sz a x) (y : Int) : Sz a (x / y) := Nat.lt_of_le_of_lt (Int.natAbs_ediv_le_natAbs x y) hx
theorem Sz.log {a : Nat} {x : Int} (hx : Sz a x) (h0 : 0 < a) : x.natAbs.log2 < a := PySem.Flt.log2_lt_of h0 hx
theorem Sz.mulOk {a b : Nat} {x y : Int} (hx : Sz a x) (hy : Sz b y) (h0 : 0 < a) (h1 : 0 < b) (h : a + b ≤ 1000000) : CMulW x y := wide_mul hx hy h0 h1 h
theorem gcd_pos {t b : Int} (hb : 0 < b) : 0 < ((Int.gcd t b : Nat) : Int) := by
  have : Int.gcd t b ≠ 0 := fun z => by
    have := Int.gcd_eq_zero_iff.mp z
    omega
  omega
theorem gcd_le {t b : Int} (hb : 0 < b) : ((Int.gcd t b : Nat) : Int) ≤ b := by
  have h := Int.gcd_dvd_right t b
  exact Int.le_of_dvd hb h
theorem Sz.gcd {a : Nat} {t b : Int} (h : Sz a b) (hb : 0 < b) : Sz a ((Int.gcd t b : Nat) : Int) := by
  have h1 := gcd_le (t := t) hb
  have h2 := gcd_pos (t := t) hb
  unfold Sz at *
  omega

/-! ### Weights -/
theorem tb_ : ¬ (("top" : Str) = "bottom") := by decide +kernel
theorem bt_ : ¬ (("bottom" : Str) = "top") := by decide +kernel
/-- a Weight's fields, as __init__ stores them -/
def wf (t b : Int) : List (Str × V) := putF "bottom" (.int b) (putF "top" (.int t) [])
theorem wf_top (t b : Int) : (wf t b).lookup ("top" : Str) = some (.int t) := by
  unfold wf
  rw [lookup_putF, if_neg tb_, lookup_putF, if_pos rfl]
theorem wf_bottom (t b : Int) : (wf t b).lookup ("bottom" : Str) = some (.int b) := by
  unfold wf
  rw [lookup_putF, if_pos rfl]
theorem wf_no (t b : Int) {m : Str} (h1 : ¬ m = "top") (h2 : ¬ m = "bottom") : (wf t b).lookup m = none := by
  unfold wf
  rw [lookup_putF, if_neg h2, lookup_putF, if_neg h1]
  all_goals rfl
/-- a Weight t / b stands at p -/
def WAt (C : Addr) (H : Hp) (p : Addr) (t b : Int) : Prop := ∃ dx, H p = some (.ins C dx (wf t b))
theorem WAt.same {C : Addr} {H H' : Hp} {p : Addr} {t b : Int} (h : WAt C H p t b) (e : Same H H') : WAt C H' p t b := let ⟨dx, h⟩ := h; ⟨dx, e _ _ h⟩
theorem same_make {H : Hp} {x dx C : Addr} {fs : List (Str × V)} (nx : H x = none) (ndx : H dx = none) : Same H (upd (upd (upd H dx (.own x)) x (.ins C dx [])) x (.ins C dx fs)) := fun b o e => by
  rw [upd_ne (ne_of_none e nx), upd_ne (ne_of_none e nx), upd_ne (ne_of_none e ndx)]
  exact e

/-- what the top holds of the class Weight, at C -/
structure WTxt (K : PySem.W.Frag) (mg : Str → Option Value) (C fW : Addr) : Prop where
  cl : Cls K C
  nT : NoAttr K C "top"
  nB : NoAttr K C "bottom"
  mgC : mg "Weight" = some (.ref C)
  mgW : mg "is_whole" = some (.ref fW)
  kpW : PySem.W.keepIn K (.ref fW) = true
  gcd : mg "gcd" = some (.builtin "math.gcd")

def spInit (C : Addr) : Sp := fun vs H Q _ => ∃ (p dx : Addr) (t b : Int), vs = [.ref p, .int t, .int b] ∧ H p = some (.ins C dx []) ∧ 0 ≤ t ∧ 0 < b ∧ Sz 8000 b ∧
  Q .non (upd H p (.ins C dx (wf (t / (Int.gcd t b : Nat)) (b / (Int.gcd t b : Nat)))))

/-- as FunD.ok, of a def that lets nothing out -/
theorem FunD_ok0 {P : Program} {w : World} {K : PySem.W.Frag} {mg : Str → Option Value} {base : Heap} {x qual : Str} {params : Arguments} {body : List Stmt} {scope : Scope} {dvs : List V} {kws : List (Str × V)} {f : Addr} {fd : FuncData} {N ps : List Str} {k : Nat} {sp : Sp}
    (F : FunD K x qual params body scope dvs kws f fd) (S : FnScope N ps scope) (len : ∀ vs H Q E, sp vs H Q E → vs.length = ps.length)
    (hbody : ∀ (cdv : Value) (A : Around) (outer : List PySem.Env) (s : Shared) (H : Hp) (vs : List V) (Q : VK) (E : XK), Room k (A.deeper (PyProof.Rows.envOfC qual scope s.heap.objs.size f cdv)) → sp vs H Q E →
      ∃ t, PSs (cxOf CX0 P w K mg base N qual scope f cdv A outer s H E).nox body t ∧ t { nx := fun _ H' => Q .non H', rt := Q } (start N vs) H) : FnOk P w K mg base CX0 (k + 1) f fd ps sp :=
  F.ok S len fun cdv A outer s H vs Q E hr h => let ⟨t, h1, h2⟩ := hbody cdv A outer s H vs Q E hr h; ⟨t, h1.nox, h2⟩

section
variable {P : Program} {w : World} {K : PySem.W.Frag} {mg : Str → Option Value} {base : Heap}
theorem scInit : FnScope ["self", "top", "bottom", "shared"] ["self", "top", "bottom"] (defScope sInit) := ⟨rfl, rfl, rfl, by decide +kernel, rfl, by decide +kernel, by decide +kernel⟩
abbrev FunI (K : PySem.W.Frag) (f : Addr) (fd : FuncData) : Prop := FunD K "__init__" "Weight.__init__" (defArgs sInit) (defBody sInit) (defScope sInit) [.int 1] [] f fd
theorem ok_init {f C fW : Addr} {fd fdW : FuncData} (F : FunI K f fd) (T : WTxt K mg C fW) (GW : FnOk P w K mg base CX0 1 fW fdW ["thing"] (spWhole K)) (bW : Binds K fdW ["thing"] []) : FnOk P w K mg base CX0 2 f fd ["self", "top", "bottom"] (spInit C) := by
  refine FunD_ok0 F scInit (fun vs H Q E h => ?_) (fun cdv A outer s H vs Q E hr h => ?_)
  · obtain ⟨p, dx, t, b, rfl, _⟩ := h
    rfl
  · obtain ⟨p, dx, t, b, rfl, hp, ht, hb, hz, k⟩ := h
    refine ⟨_, pss_cons (ps_if (PW.pt (pw_and (pt_val (pe_call GW hr (by rfl) T.mgW T.kpW bW .nil pass0 (pa_cons (pv 2) pa_nil))) (pw_and1 (pt_cmpR op_eq (pv 2) pe_int (nomark _))))) (pss_one ps_never) pss_nil)
      (pss_cons (ps_if (PW.pt (pw_or (pt_not (pt_val (pe_call GW hr (by rfl) T.mgW T.kpW bW .nil pass0 (pa_cons (pv 1) pa_nil)))) (pw_or (pt_not (pt_val (pe_call GW hr (by rfl) T.mgW T.kpW bW .nil pass0 (pa_cons (pv 2) pa_nil))))
          (pw_or (pt_cmpR op_lt (pv 1) pe_int (nomark _)) (pw_or1 (pt_cmpR op_lt (pv 2) pe_int (nomark _))))))) (pss_one ps_never) pss_nil)
      (pss_cons (ps_set (i := 3) scInit.nd rfl (Or.inl rfl) (pe_callBfun cr_gcd (by rfl) T.gcd (pa_cons (pv 1) (pa_cons (pv 2) pa_nil))))
      (pss_cons (ps_fld (pv 0) (pe_op op_fdivW (pv 1) (pv 3)) rfl)
      (pss_one (ps_fld (pv 0) (pe_op op_fdivW (pv 2) (pv 3)) rfl))))), ?_⟩
    have hg := gcd_pos (t := t) hb
    have hgz : CDivW t ((Int.gcd t b : Nat) : Int) := ⟨hg, Nat.lt_trans ((Sz.gcd (t := t) hz hb).log (by decide)) (by decide)⟩
    have hgz' : CDivW b ((Int.gcd t b : Nat) : Int) := hgz
    refine ⟨_, rfl, b, rfl, true, rfl, iteT ⟨_, rfl, rfl, _, rfl, ?_⟩⟩
    rw [decide_eq_false (show ¬ (V.int b = V.int 0) from fun z => by cases z; omega)]
    refine iteF ?_
    refine ⟨_, rfl, t, rfl, true, rfl, iteF ⟨_, rfl, b, rfl, true, rfl, iteF ⟨_, rfl, _, _, rfl, rfl, _, rfl, ?_⟩⟩⟩
    rw [decide_eq_false (show ¬ t < 0 by omega)]
    refine iteF ⟨_, rfl, _, _, rfl, rfl, _, rfl, ?_⟩
    rw [decide_eq_false (show ¬ b < 0 by omega)]
    refine iteF ?_
    refine ⟨_, rfl, _, rfl, t, b, rfl, ?_⟩
    refine ⟨_, rfl, _, rfl, _, _, rfl, rfl, hgz, _, rfl, p, C, dx, _, rfl, hp, T.cl, T.nT, (by show 0 < 1000; decide), ?_⟩
    refine ⟨_, rfl, _, rfl, _, _, rfl, rfl, hgz', _, rfl, p, C, dx, _, rfl, upd_same, T.cl, T.nB, (by show 1 < 1000; decide), ?_⟩
    show Q .non (upd (upd H p _) p _)
    rw [upd_upd]
    exact k
end
end K
namespace K
open PySem L2 Rp
/-- a Weight's numbers, below 2 ^ m -/
structure Wn (m : Nat) (t b : Int) : Prop where
  t0 : 0 ≤ t
  b0 : 0 < b
  tz : Sz m t
  bz : Sz m b
theorem Wn.mono {m n : Nat} {t b : Int} (h : Wn m t b) (hm : m ≤ n) : Wn n t b := ⟨h.t0, h.b0, h.tz.mono hm, h.bz.mono hm⟩
/-- lowest terms -/
def lowT (t b : Int) : Int := t / ((Int.gcd t b : Nat) : Int)
def lowB (t b : Int) : Int := b / ((Int.gcd t b : Nat) : Int)
theorem Wn.low {m : Nat} {t b : Int} (h : Wn m t b) : Wn m (lowT t b) (lowB t b) := by
  have hg := gcd_pos (t := t) h.b0
  have hd := Int.gcd_dvd_right t b
  refine ⟨Int.ediv_nonneg h.t0 (Int.le_of_lt hg), ?_, h.tz.div _, h.bz.div _⟩
  exact Int.ediv_pos_of_pos_of_dvd h.b0 (Int.le_of_lt hg) hd

end K
namespace K
open PySem L2 Rp
/-- a def of the module, as its callers want it -/
structure Cl (K : PySem.W.Frag) (mg : Str → Option Value) (x : Str) (f : Addr) (fd : FuncData) (ps : List Str) : Prop where
  g : mg x = some (.ref f)
  k : PySem.W.keepIn K (.ref f) = true
  b : Binds K fd ps []
/-- what isinstance asks of an own class's instance -/
structure WIns (K : PySem.W.Frag) (C : Addr) : Prop where
  ha : PySem.W.findIn K (.ref C) "__class__" = some (some (.builtin "object.__class__"))
  hn : PySem.W.specialIn K (.builtin "object.__class__") "__get__" = some (some (.builtin "getset_descriptor.__get__"))
  htk : PySem.W.takesIn K (.builtin "object.__class__") = some true
  hm : PySem.W.mroIn K C (.type "object") = some true
theorem kit_self {K : PySem.W.Frag} {C : Addr} : PySem.W.kitOne K (.ref C) (.ref C) = some true := by
  unfold PySem.W.kitOne
  rw [if_pos (by simp)]

def spLow : Sp := fun vs H Q _ => ∃ t b : Int, vs = [.int t, .int b] ∧ 0 ≤ t ∧ 0 < b ∧ Sz 8000 b ∧ ∀ p, H p = none → Q (.ref p) (upd H p (.tup [.int (lowT t b), .int (lowB t b)]))
/-- _law_is of a Weight that is what it should be -/
def spIs (C : Addr) : Sp := fun vs H Q _ => ∃ (p : Addr) (t b : Int), vs = [.ref p, .int t, .int b] ∧ 0 ≤ t ∧ 0 < b ∧ Sz 8000 b ∧ WAt C H p (lowT t b) (lowB t b) ∧ ∀ H', Same H H' → Q (.bl true) H'

section
variable {P : Program} {w : World} {K : PySem.W.Frag} {mg : Str → Option Value} {base : Heap}
theorem scLow : FnScope ["_law_top", "_law_bottom", "_law_by"] ["_law_top", "_law_bottom"] (defScope sLow) := ⟨rfl, rfl, rfl, by decide +kernel, rfl, by decide +kernel, by decide +kernel⟩
theorem ok_low {f fD : Addr} {fd fdD : FuncData} (F : Fun K "_law_lowest" "_law_lowest" sLow f fd) (cD : Cl K mg "_law_divides" fD fdD ["_law_one", "_law_other"]) (GD : FnOk P w K mg base CX0 1 fD fdD ["_law_one", "_law_other"] spDiv) :
    FnOk P w K mg base CX0 2 f fd ["_law_top", "_law_bottom"] spLow := by
  refine F.ok scLow (fun vs H Q E h => ?_) (fun cdv A outer s H vs Q E hr h => ?_)
  · obtain ⟨t, b, rfl, _⟩ := h
    rfl
  · obtain ⟨t, b, rfl, ht, hb, hz, k⟩ := h
    refine ⟨_, pss_cons (ps_set (i := 2) scLow.nd rfl (Or.inl rfl) (pe_call GD hr (by rfl) cD.g cD.k cD.b .nil pass0 (pa_cons (pv 0) (pa_cons (pv 1) pa_nil))))
      (pss_one (ps_ret (pe_tup (pa_cons (pe_op op_fdivW (pv 0) (pv 2)) (pa_cons (pe_op op_fdivW (pv 1) (pv 2)) pa_nil))))), ?_⟩
    have hg := gcd_pos (t := t) hb
    have hgz : ∀ i, CDivW i ((Int.gcd t b : Nat) : Int) := fun i => ⟨hg, Nat.lt_trans ((Sz.gcd (t := t) hz hb).log (by decide)) (by decide)⟩
    refine ⟨_, rfl, _, rfl, t, b, rfl, ht, Int.le_of_lt hb, ?_⟩
    refine ⟨_, rfl, _, rfl, _, _, rfl, rfl, hgz _, _, rfl, _, rfl, _, _, rfl, rfl, hgz _, (by show 2 ≤ sizeLine; decide), fun p hp => ?_⟩
    exact k p hp
theorem scIs : FnScope ["_law_found", "_law_top", "_law_bottom"] ["_law_found", "_law_top", "_law_bottom"] (defScope sIs) := ⟨rfl, rfl, rfl, by decide +kernel, rfl, by decide +kernel, by decide +kernel⟩
theorem ok_is {f C fW fL fN : Addr} {fd fdL fdN : FuncData} (F : Fun K "_law_is" "_law_is" sIs f fd) (T : WTxt K mg C fW) (B : Blt mg) (N : WIns K C)
    (cW : Cl K mg "_law_whole" fN fdN ["_law_thing"]) (GW : FnOk P w K mg base CX0 1 fN fdN ["_law_thing"] (spWhole K)) (cL : Cl K mg "_law_lowest" fL fdL ["_law_top", "_law_bottom"]) (GL : FnOk P w K mg base CX0 2 fL fdL ["_law_top", "_law_bottom"] spLow) :
    FnOk P w K mg base CX0 3 f fd ["_law_found", "_law_top", "_law_bottom"] (spIs C) := by
  refine F.ok scIs (fun vs H Q E h => ?_) (fun cdv A outer s H vs Q E hr h => ?_)
  · obtain ⟨p, t, b, rfl, _⟩ := h
    rfl
  · obtain ⟨p, t, b, rfl, ht, hb, hz, ⟨dx, hp⟩, k⟩ := h
    have hr1 : Room 1 _ := hr.mono (by decide)
    refine ⟨_, pss_cons (ps_if (PW.pt (pw_or (pt_not (pt_val (pe_callB call_isi (by rfl) B.isi (by decide +kernel) (pa_cons (pv 0) (pa_cons (pe_glob (v := .ref C) rfl T.mgC rfl) pa_nil)))))
          (pw_or (pt_not (pt_val (pe_call GW hr1 (by rfl) cW.g cW.k cW.b .nil pass0 (pa_cons (pe_fld (pv 0) rfl) pa_nil))))
          (pw_or1 (pt_not (pt_val (pe_call GW hr1 (by rfl) cW.g cW.k cW.b .nil pass0 (pa_cons (pe_fld (pv 0) rfl) pa_nil)))))))) (pss_one (ps_ret pe_bl)) pss_nil)
      (pss_one (ps_ret (pe_cmpR (op_eqD hr.units) (pe_tup (pa_cons (pe_fld (pv 0) rfl) (pa_cons (pe_fld (pv 0) rfl) pa_nil))) (pe_call GL hr (by rfl) cL.g cL.k cL.b .nil pass0 (pa_cons (pv 1) (pa_cons (pv 2) pa_nil))) (nomark _)))), ?_⟩
    refine ⟨_, rfl, _, .ref C, _, _, true, rfl, .own _, .base (.ins hp T.cl N.ha N.hn N.htk N.hm), kit_self, true, rfl, iteF ?_⟩
    refine ⟨_, rfl, p, C, dx, _, _, rfl, hp, T.cl, T.nT, wf_top _ _, _, rfl, true, rfl, iteF ?_⟩
    refine ⟨_, rfl, p, C, dx, _, _, rfl, hp, T.cl, T.nB, wf_bottom _ _, _, rfl, true, rfl, iteF ?_⟩
    refine ⟨_, rfl, p, C, dx, _, _, rfl, hp, T.cl, T.nT, wf_top _ _, _, rfl, p, C, dx, _, _, rfl, hp, T.cl, T.nB, wf_bottom _ _, (by show 2 ≤ sizeLine; decide), fun a ha => ?_⟩
    refine ⟨_, rfl, _, rfl, t, b, rfl, ht, hb, hz, fun c hc => ?_⟩
    have nac : a ≠ c := fun z => by
      rw [z] at hc
      rw [upd_same] at hc
      cases hc
    have e1 : Same H (upd (upd H a (.tup [V.int (lowT t b), V.int (lowB t b)])) c (.tup [V.int (lowT t b), V.int (lowB t b)])) := fun q o e => by
      rw [upd_ne (ne_of_none (by rw [upd_ne (ne_of_none e ha)]; exact e) hc), upd_ne (ne_of_none e ha)]
      exact e
    refine ⟨.tuple [.int (lowT t b), .int (lowB t b)], .tuple [.int (lowT t b), .int (lowB t b)], .tup (SqT.of (by rw [upd_ne nac]; exact upd_same)) (.cons (.int _) (.cons (.int _) .nil)), .tup (SqT.of upd_same) (.cons (.int _) (.cons (.int _) .nil)), rfl, rfl, ?_⟩
    rw [SeqAt.eqv_refl]
    · exact k _ e1
    · rfl
end
end K
namespace K
open PySem L2 Rp
/-- all but d is kept, what is free was free -/
structure Fw (d : Addr) (H H' : Hp) : Prop where
  kp : ∀ q o, q ≠ d → H q = some o → H' q = some o
  nn : ∀ p, H' p = none → H p = none
theorem Fw.refl (d : Addr) (H : Hp) : Fw d H H := ⟨fun _ _ _ h => h, fun _ h => h⟩
theorem Fw.trans {d : Addr} {H H1 H2 : Hp} (a : Fw d H H1) (b : Fw d H1 H2) : Fw d H H2 := ⟨fun q o n h => b.kp q o n (a.kp q o n h), fun p h => a.nn p (b.nn p h)⟩
theorem Fw.draw {d : Addr} {H H' : Hp} (h : DeckAt H' d) (e : ∀ b, b ≠ d → H' b = H b) : Fw d H H' := ⟨fun q o n h => (e q n).trans h, fun p hp => by
  by_cases z : p = d
  · obtain ⟨_, _, _, h⟩ := h
    rw [z, h] at hp
    cases hp
  · rw [← e p z]; exact hp⟩
theorem Fw.upd {d p : Addr} {H : Hp} {o : HO} (hp : H p = none) : Fw d H (upd H p o) := ⟨fun q u n h => by rw [upd_ne (ne_of_none h hp)]; exact h, fun q h => by
  by_cases z : q = p
  · rw [z, upd_same] at h; cases h
  · rw [upd_ne z] at h; exact h⟩
theorem Fw.same {d : Addr} {H H' : Hp} (e : Same H H') : (∀ p, H' p = none → H p = none) := fun p h => by
  cases q : H p with
  | none => rfl
  | some o => rw [e p o q] at h; cases h
theorem Fw.of_same {d : Addr} {H H' : Hp} (e : Same H H') : Fw d H H' := ⟨fun q o _ h => e q o h, Fw.same (d := d) e⟩
theorem DeckAt.upd {d p : Addr} {H : Hp} {o : HO} (h : DeckAt H d) (hp : H p = none) : DeckAt (upd H p o) d := by
  obtain ⟨a, b, c, h⟩ := h
  exact ⟨a, b, c, by rw [upd_ne (ne_of_none h hp)]; exact h⟩
theorem DeckAt.same {d : Addr} {H H' : Hp} (h : DeckAt H d) (e : Same H H') : DeckAt H' d := let ⟨a, b, c, h⟩ := h; ⟨a, b, c, e _ _ h⟩
theorem DeckAt.ne {d p : Addr} {H : Hp} (h : DeckAt H d) (hp : H p = none) : p ≠ d := fun z => by
  obtain ⟨_, _, _, h⟩ := h
  rw [z, h] at hp
  cases hp

theorem tYes_of {σ : L2.St} {H : Hp} {Q : Bool → Hp → Prop} (h : Q true H) : tYes σ H Q := h

def spTwo : Sp := fun vs H Q _ => ∃ d : Addr, vs = [.ref d] ∧ DeckAt H d ∧ ∀ (p : Addr) (t b : Int) (H' : Hp), 0 ≤ t → t ≤ 1000000000000 → 0 < b → b ≤ 1000000000000 → H p = none → H' p = some (.tup [.int t, .int b]) → DeckAt H' d → Fw d H H' → Q (.ref p) H'

section
variable {P : Program} {w : World} {K : PySem.W.Frag} {mg : Str → Option Value} {base : Heap}
theorem scTwo : FnScope ["_law_deck_here", "_law_way", "_law_top", "_law_bottom", "_law_k"] ["_law_deck_here"] (defScope sTwo) := ⟨rfl, rfl, rfl, by decide +kernel, rfl, by decide +kernel, by decide +kernel⟩
theorem ok_two {f fD : Addr} {fd fdD : FuncData} (F : Fun K "_law_two" "_law_two" sTwo f fd) (hmx : mg "max" = none) (hrg : mg "range" = none) (cD : Cl K mg "_law_draw" fD fdD ["_law_deck_here", "_law_most"])
    (GD : FnOk P w K mg base CX0 1 fD fdD ["_law_deck_here", "_law_most"] spDraw) : FnOk P w K mg base CX0 2 f fd ["_law_deck_here"] spTwo := by
  refine F.ok scTwo (fun vs H Q E h => ?_) (fun cdv A outer s H vs Q E hr h => ?_)
  · obtain ⟨d, rfl, _⟩ := h
    rfl
  · obtain ⟨d, rfl, hd, k⟩ := h
    refine ⟨_, pss_cons (ps_set (i := 1) scTwo.nd rfl (Or.inl rfl) (pe_call GD hr (by rfl) cD.g cD.k cD.b .nil pass0 (pa_cons (pv 0) (pa_cons pe_int pa_nil))))
      (pss_cons (ps_if (pt_cmpR op_eq (pv 1) pe_int (nomark _))
        (pss_cons (ps_asg (pe_lc (own := [("_law_k", 4)]) (g := gName 4) (tt := tYes) (by rfl) scTwo.nd (pi_range1 (by rfl) hrg (pa_cons pe_int pa_nil)) (blkOk_by (own := [("_law_k", 4)]) (N := ["_law_deck_here", "_law_way", "_law_top", "_law_bottom", "_law_k"]) (sc := defScope sTwo) (by decide +kernel))
            (fun _ _ _ _ _ => pg_name (i := 4) scTwo.nd rfl (Or.inl rfl)) (fun _ _ _ _ _ => pts_nil)
            (fun _ _ _ _ _ => pe_op op_add (pe_op op_mul (pe_call GD hr (by rfl) cD.g cD.k cD.b .nil pass0 (pa_cons (pv 0) (pa_cons (pe_op op_pow pe_int pe_int) pa_nil))) (pe_op op_pow pe_int pe_int)) (pe_call GD hr (by rfl) cD.g cD.k cD.b .nil pass0 (pa_cons (pv 0) (pa_cons (pe_op op_pow pe_int pe_int) pa_nil)))))
          (pg_unl rfl (pgs_cons (pg_name (i := 2) scTwo.nd rfl (Or.inl rfl)) (pgs_cons (pg_name (i := 3) scTwo.nd rfl (Or.inl rfl)) pgs_nil))))
        (pss_one (ps_ret (pe_tup (pa_cons (pv 2) (pa_cons (pe_callB (call_max2 rfl) (by rfl) hmx (by decide +kernel) (pa_cons pe_int (pa_cons (pv 3) pa_nil))) pa_nil)))))) pss_nil)
      (pss_cons (ps_if (pt_cmpR op_lt (pv 1) pe_int (nomark _)) (pss_one (ps_ret (pe_tup (pa_cons (pe_call GD hr (by rfl) cD.g cD.k cD.b .nil pass0 (pa_cons (pv 0) (pa_cons pe_int pa_nil))) (pa_cons pe_int pa_nil))))) pss_nil)
      (pss_cons (ps_if (pt_cmpR op_lt (pv 1) pe_int (nomark _)) (pss_one (ps_ret (pe_tup (pa_cons (pe_call GD hr (by rfl) cD.g cD.k cD.b .nil pass0 (pa_cons (pv 0) (pa_cons pe_int pa_nil))) (pa_cons (pe_op op_add pe_int (pe_call GD hr (by rfl) cD.g cD.k cD.b .nil pass0 (pa_cons (pv 0) (pa_cons pe_int pa_nil)))) pa_nil))))) pss_nil)
      (pss_cons (ps_if (pt_cmpR op_eq (pv 1) pe_int (nomark _)) (pss_one (ps_ret (pe_ix ix_list (pe_lst (pa_cons (pe_tup (pa_cons pe_int (pa_cons pe_int pa_nil))) (pa_cons (pe_tup (pa_cons pe_int (pa_cons pe_int pa_nil))) (pa_cons (pe_tup (pa_cons pe_int (pa_cons pe_int pa_nil))) (pa_cons (pe_tup (pa_cons pe_int (pa_cons pe_int pa_nil))) pa_nil)))))
          (pe_call GD hr (by rfl) cD.g cD.k cD.b .nil pass0 (pa_cons (pv 0) (pa_cons pe_int pa_nil))) (fun _ _ => rfl)))) pss_nil)
      (pss_one (ps_ret (pe_tup (pa_cons (pe_call GD hr (by rfl) cD.g cD.k cD.b .nil pass0 (pa_cons (pv 0) (pa_cons (pe_op op_add (pe_op op_pow pe_int pe_int) pe_int) pa_nil))) (pa_cons (pe_op op_add pe_int (pe_call GD hr (by rfl) cD.g cD.k cD.b .nil pass0 (pa_cons (pv 0) (pa_cons (pe_op op_pow pe_int pe_int) pa_nil)))) pa_nil))))))))), ?_⟩
    have p6 : CPow (10 : Int) (6 : Int) := (by show (0:Int) ≤ 6 ∧ (6:Int) ≤ 1000000 ∧ (10:Int).natAbs < 2 ^ 64; decide)
    have m6 : (10 : Int) ^ (6 : Int).toNat = 1000000 := by decide
    have m7 : (10 : Int) ^ (6 : Int).toNat + 1 = 1000001 := by decide
    have pair : ∀ (H3 : Hp) (t b : Int), 0 ≤ t → t ≤ 1000000000000 → 0 < b → b ≤ 1000000000000 → DeckAt H3 d → Fw d H H3 → ∀ p, H3 p = none → Q (.ref p) (upd H3 p (.tup [.int t, .int b])) := fun H3 t b t0 t1 b0 b1 d3 f3 p hp =>
      k p t b _ t0 t1 b0 b1 (f3.nn p hp) upd_same (d3.upd hp) (f3.trans (Fw.upd hp))
    refine ⟨_, rfl, d, 9, rfl, by decide, by decide, hd, fun r r0 r1 H1 d1 e1 => ?_⟩
    have f1 := Fw.draw d1 e1
    refine ⟨_, rfl, rfl, _, rfl, ?_⟩
    refine ite2 (fun _ => ?_) (fun _ => ?_)
    · refine ⟨2, rfl, by decide, by decide, fun D hD => ?_⟩
      refine lc_range (lo := 0) (n := 2) (fun i H2 => ∃ acc : List V, H2 D = some (.lst acc) ∧ acc.length = i ∧ (∀ v ∈ acc, ∃ n : Int, v = .int n ∧ 0 ≤ n ∧ n ≤ 1000000000000) ∧ DeckAt H2 d ∧ Fw d H H2) ?_ ?_ ?_
      · exact ⟨[], upd_same, rfl, fun v hv => absurd hv (by simp), d1.upd hD, f1.trans (Fw.upd hD)⟩
      · rintro i H2 hi ⟨acc, hA, hl, hall, d2, f2⟩
        have nD : D ≠ d := d1.ne hD
        refine ⟨rfl, tYes_of ?_⟩
        rw [if_pos rfl]
        refine ⟨_, rfl, _, _, rfl, rfl, p6, d, _, rfl, by rw [m6]; decide, by rw [m6]; decide, d2, fun q q0 q1 H3 d3 e3 => ?_⟩
        refine ⟨_, _, rfl, rfl, p6, _, _, rfl, rfl, .inr (by rw [m6]; decide), ?_⟩
        refine ⟨_, rfl, _, _, rfl, rfl, p6, d, _, rfl, by rw [m6]; decide, by rw [m6]; decide, d3, fun u u0 u1 H4 d4 e4 => ?_⟩
        rw [m6] at q1 u1
        refine ⟨_, _, rfl, rfl, acc, by rw [e4 D nD, e3 D nD]; exact hA, small1000 (by omega), ?_⟩
        have f4 : Fw d H H4 := (f2.trans (Fw.draw d3 e3)).trans (Fw.draw d4 e4)
        have hD0 : H D = none := f1.nn D hD
        refine ⟨acc ++ [_], upd_same, by rw [List.length_append, hl]; rfl, fun v hv => ?_, ?_, ?_⟩
        · rcases List.mem_append.mp hv with z | z
          · exact hall v z
          · have z' := List.mem_singleton.mp z
            refine ⟨_, z', ?_, ?_⟩
            · rw [m6]; omega
            · rw [m6]; omega
        · obtain ⟨a, b, c, h⟩ := d4
          exact ⟨a, b, c, by rw [upd_ne (Ne.symm nD)]; exact h⟩
        · refine ⟨fun q o n h => ?_, fun q h => ?_⟩
          · rw [upd_ne (ne_of_none h hD0)]
            exact f4.kp q o n h
          · by_cases z : q = D
            · rw [z, upd_same] at h; cases h
            · rw [upd_ne z] at h
              exact f4.nn q h
      · rintro H2 ⟨acc, hA, hl, hall, d2, f2⟩
        obtain ⟨v1, v2, rfl⟩ : ∃ v1 v2, acc = [v1, v2] := by
          match acc, hl with
          | [v1, v2], _ => exact ⟨v1, v2, rfl⟩
        obtain ⟨t, rfl, t0, t1⟩ := hall v1 (by simp)
        obtain ⟨b, rfl, b0, b1⟩ := hall v2 (by simp)
        refine ⟨D, _, rfl, SqL.of hA, rfl, _, _, rfl, _, _, rfl, rfl, ?_⟩
        refine ⟨_, rfl, _, rfl, 1, b, rfl, (by show 2 ≤ sizeLine; decide), fun p hp => ?_⟩
        refine pair H2 t _ t0 t1 ?_ ?_ d2 f2 p hp
        · split <;> omega
        · split <;> omega
    · refine ⟨_, rfl, _, _, rfl, rfl, _, rfl, ?_⟩
      refine ite2 (fun _ => ?_) (fun _ => ?_)
      · refine ⟨_, rfl, d, 30, rfl, by decide, by decide, d1, fun q q0 q1 H3 d3 e3 => ⟨(by show 2 ≤ sizeLine; decide), fun p hp => ?_⟩⟩
        exact pair H3 q 1 q0 (by omega) (by decide) (by decide) d3 (f1.trans (Fw.draw d3 e3)) p hp
      · refine ⟨_, rfl, _, _, rfl, rfl, _, rfl, ?_⟩
        refine ite2 (fun _ => ?_) (fun _ => ?_)
        · refine ⟨_, rfl, d, 60, rfl, by decide, by decide, d1, fun q q0 q1 H3 d3 e3 => ?_⟩
          refine ⟨_, rfl, d, 12, rfl, by decide, by decide, d3, fun u u0 u1 H4 d4 e4 => ⟨_, _, rfl, rfl, (by show 2 ≤ sizeLine; decide), fun p hp => ?_⟩⟩
          exact pair H4 q (1 + u) q0 (by omega) (by omega) (by omega) d4 ((f1.trans (Fw.draw d3 e3)).trans (Fw.draw d4 e4)) p hp
        · refine ⟨_, rfl, rfl, _, rfl, ?_⟩
          refine ite2 (fun _ => ?_) (fun _ => ?_)
          · refine ⟨(by show 2 ≤ sizeLine; decide), fun pa ha => ⟨(by show 2 ≤ sizeLine; decide), fun pb hb => ⟨(by show 2 ≤ sizeLine; decide), fun pc hc => ⟨(by show 2 ≤ sizeLine; decide), fun pe he => ⟨(by show 4 ≤ sizeLine; decide), fun l hl => ?_⟩⟩⟩⟩⟩
            have da := d1.upd (o := .tup [.int 0, .int 1]) ha
            have db := da.upd (o := .tup [.int 0, .int 7]) hb
            have dc := db.upd (o := .tup [.int 1, .int 1]) hc
            have de := dc.upd (o := .tup [.int 1, .int 2]) he
            have dl := de.upd (o := .lst [.ref pa, .ref pb, .ref pc, .ref pe]) hl
            have fa : Fw d _ _ := Fw.upd (o := .tup [.int 0, .int 1]) ha
            have fb : Fw d _ _ := Fw.upd (o := .tup [.int 0, .int 7]) hb
            have fc : Fw d _ _ := Fw.upd (o := .tup [.int 1, .int 1]) hc
            have fe : Fw d _ _ := Fw.upd (o := .tup [.int 1, .int 2]) he
            have fl : Fw d _ _ := Fw.upd (o := .lst [.ref pa, .ref pb, .ref pc, .ref pe]) hl
            refine ⟨_, rfl, d, 4, rfl, by decide, by decide, dl, fun q q0 q1 H3 d3 e3 => ?_⟩
            have f3 := Fw.draw d3 e3
            have all := f1.trans ((((((fa.trans fb).trans fc).trans fe).trans fl)).trans f3)
            have h3 : H3 l = some (.lst [.ref pa, .ref pb, .ref pc, .ref pe]) := (e3 l (de.ne hl)).trans upd_same
            have h4 : q = 0 ∨ q = 1 ∨ q = 2 ∨ q = 3 := by omega
            rcases h4 with rfl | rfl | rfl | rfl
            · exact ⟨l, _, _, .ref pa, rfl, rfl, SqL.of h3, rfl, k pa 0 1 H3 (by decide) (by decide) (by decide) (by decide) (f1.nn _ ha) (((((fb.trans fc).trans fe).trans fl).trans f3).kp _ _ (d1.ne ha) upd_same) d3 all⟩
            · exact ⟨l, _, _, .ref pb, rfl, rfl, SqL.of h3, rfl, k pb 0 7 H3 (by decide) (by decide) (by decide) (by decide) ((f1.trans fa).nn _ hb) ((((fc.trans fe).trans fl).trans f3).kp _ _ (da.ne hb) upd_same) d3 all⟩
            · exact ⟨l, _, _, .ref pc, rfl, rfl, SqL.of h3, rfl, k pc 1 1 H3 (by decide) (by decide) (by decide) (by decide) (((f1.trans fa).trans fb).nn _ hc) (((fe.trans fl).trans f3).kp _ _ (db.ne hc) upd_same) d3 all⟩
            · exact ⟨l, _, _, .ref pe, rfl, rfl, SqL.of h3, rfl, k pe 1 2 H3 (by decide) (by decide) (by decide) (by decide) ((((f1.trans fa).trans fb).trans fc).nn _ he) ((fl.trans f3).kp _ _ (dc.ne he) upd_same) d3 all⟩
          · refine ⟨_, rfl, _, _, rfl, rfl, p6, _, _, rfl, rfl, d, _, rfl, by rw [m6]; decide, by rw [m6]; decide, d1, fun q q0 q1 H3 d3 e3 => ?_⟩
            refine ⟨_, rfl, _, _, rfl, rfl, p6, d, _, rfl, by rw [m6]; decide, by rw [m6]; decide, d3, fun u u0 u1 H4 d4 e4 => ⟨_, _, rfl, rfl, (by show 2 ≤ sizeLine; decide), fun p hp => ?_⟩⟩
            rw [m6] at q1 u1
            exact pair H4 q (1 + u) q0 (by omega) (by omega) (by omega) d4 ((f1.trans (Fw.draw d3 e3)).trans (Fw.draw d4 e4)) p hp
end
end K
namespace K
open PySem L2 Rp
/-- a number's text -/
def nT (n : Int) : Str := Str.ofString (toString n)
theorem nT_len {n : Int} (h : Sz 1600 n) : (nT n).length ≤ 1601 := by
  unfold nT
  rw [ofString_length]
  exact int_text_length_le (by decide) (h.log (by decide))
theorem append_len (x y : Str) : (x ++ y).length = x.length + y.length := strLen_append x y
theorem join_one (x : Str) : Txt.join "" [x] = x := rfl
/-- a Weight's text by repr -/
def wT (t b : Int) : Str := if b = 1 then Str.empty ++ "Weight(" ++ nT t ++ ")" else Str.empty ++ "Weight(" ++ nT t ++ ", " ++ nT b ++ ")"
theorem wT_len {t b : Int} (ht : Sz 1600 t) (hb : Sz 1600 b) : (wT t b).length ≤ 4000 := by
  have h1 := nT_len ht
  have h2 := nT_len hb
  have e1 : ("Weight(" : Str).length = 7 := by decide +kernel
  have e2 : (")" : Str).length = 1 := by decide +kernel
  have e3 : (", " : Str).length = 2 := by decide +kernel
  have e4 : (Str.empty : Str).length = 0 := by decide +kernel
  unfold wT
  split <;> simp only [append_len] <;> omega

def spShow : Sp := fun vs H Q _ => ∃ n : Int, vs = [.int n] ∧ 0 ≤ n ∧ Sz 1600 n ∧ ∀ H', Same H H' → Q (.str (nT n)) H'
def spRepr (C : Addr) : Sp := fun vs H Q _ => ∃ (p : Addr) (t b : Int), vs = [.ref p] ∧ WAt C H p t b ∧ Wn 1600 t b ∧ ∀ H', Same H H' → Q (.str (wT t b)) H'

section
variable {P : Program} {w : World} {K : PySem.W.Frag} {mg : Str → Option Value} {base : Heap}
theorem scShow : FnScope ["number", "blocks", "low"] ["number"] (defScope sShow) := ⟨rfl, rfl, rfl, by decide +kernel, rfl, by decide +kernel, by decide +kernel⟩
theorem ok_show {f : Addr} {fd : FuncData} {z : Int} {zt : Tok} (F : Fun K "show_whole" "show_whole" sShow f fd) (hst : mg "str" = none) (hrv : mg "reversed" = none) (hB : mg "BLOCK" = some (.int z zt)) (hz : (2 : Int) ^ 1600 ≤ z) :
    FnOk P w K mg base CX0 1 f fd ["number"] spShow := by
  refine F.ok scShow (fun vs H Q E h => ?_) (fun cdv A outer s H vs Q E hr h => ?_)
  · obtain ⟨n, rfl, _⟩ := h
    rfl
  · obtain ⟨n, rfl, n0, nz, k⟩ := h
    refine ⟨_, pss_cons (ps_set (i := 1) scShow.nd rfl (Or.inl rfl) (pe_lst pa_nil))
      (pss_cons (ps_while PassesOwn.never (pt_cmpR op_ge (pv 0) (pe_glob (v := .int z) rfl hB ⟨_, rfl⟩) (nomark _)) pss_never)
      (pss_cons (ps_expr (pe_bm PySem.F.plainAttrs_list PySem.F.slot_list_append PySem.F.type_list_append mt_append (pv 1) (pa_cons (pe_callTy call_str_int (by rfl) hst (by decide +kernel) (pa_cons (pv 0) pa_nil)) pa_nil)))
      (pss_one (ps_ret (pe_joinRev rfl (by rfl) hrv pe_str (pv 1)))))), ?_⟩
    refine ⟨Nat.zero_le _, fun l hl => ?_⟩
    have hlt : ¬ z ≤ n := by
      have h1 : n.natAbs < 2 ^ 1600 := nz
      have h2 : (n.natAbs : Int) = n := by omega
      have h3 : ((2 ^ 1600 : Nat) : Int) = (2 : Int) ^ 1600 := by norm_cast
      have h4 : (n.natAbs : Int) < ((2 ^ 1600 : Nat) : Int) := Int.ofNat_lt.mpr h1
      rw [h2, h3] at h4
      exact Int.not_le.mpr (Int.lt_of_lt_of_le h4 hz)
    refine while_by (fun σ H' => H' = upd H l (.lst []) ∧ σ = [some (.int n), some (.ref l), none]) (fun _ _ => 0) ⟨rfl, rfl⟩ ?_ ?_
    · rintro σ H' ⟨rfl, rfl⟩
      refine ⟨_, rfl, _, _, rfl, rfl, _, rfl, ?_⟩
      rw [decide_eq_false hlt]
      refine iteF ?_
      refine ⟨_, rfl, .inl ⟨rfl, _, SqL.of upd_same⟩, _, rfl, _, rfl, Nat.lt_trans (nz.log (by decide)) (by decide), l, _, _, rfl, rfl, upd_same, by decide, ?_⟩
      have ln := nT_len nz
      refine ⟨"", rfl, _, rfl, l, [nT n], rfl, SqL.of upd_same, ?_, ?_⟩
      · simp only [List.map_cons, List.map_nil, List.sum_cons, List.sum_nil, List.length_cons, List.length_nil]
        have e0 : ("" : Str).length = 0 := by decide +kernel
        rw [e0]
        omega
      · refine k _ fun b o e => ?_
        rw [upd_ne (ne_of_none e hl), upd_ne (ne_of_none e hl)]
        exact e
    · rintro σ H' Q1 Q2 hQ ⟨v, e, i, j, h1, h2, c, h3, q⟩
      exact ⟨v, e, i, j, h1, h2, c, h3, hQ _ _ q⟩
end
end K
namespace K
open PySem L2 Rp
theorem same_upd {H : Hp} {p : Addr} {o : HO} (hp : H p = none) : Same H (upd H p o) := fun y u e => by
  rw [upd_ne (ne_of_none e hp)]
  exact e
theorem emp (x : Str) : Str.empty ++ x = x := TL.ext_tl (by rw [TL.tl_append]; rfl)
/-- a Weight's text -/
def wS (t b : Int) : Str := if b = 1 then nT t else nT t ++ "/" ++ nT b
theorem wS_len {t b : Int} (ht : Sz 1600 t) (hb : Sz 1600 b) : (wS t b).length ≤ 4000 := by
  have h1 := nT_len ht
  have h2 := nT_len hb
  have e3 : ("/" : Str).length = 1 := by decide +kernel
  unfold wS
  split
  · omega
  · simp only [append_len, e3]
    omega
/-! ### figures of a number -/
def spStr (C : Addr) : Sp := fun vs H Q _ => ∃ (p : Addr) (t b : Int), vs = [.ref p] ∧ WAt C H p t b ∧ Wn 1600 t b ∧ ∀ H', Same H H' → Q (.str (wS t b)) H'
def spWritten : Sp := fun vs H Q _ => ∃ t b : Int, vs = [.int t, .int b] ∧ Wn 1500 t b ∧ ∀ H', Same H H' → Q (.str (wS (lowT t b) (lowB t b))) H'
def spShown : Sp := fun vs H Q _ => ∃ t b : Int, vs = [.int t, .int b] ∧ Wn 1500 t b ∧ ∀ H', Same H H' → Q (.str (wT (lowT t b) (lowB t b))) H'
/-- a text, none or one times -/
theorem op_mulS01 {X : Cx} : OpR X (binaryOp .Mult) (fun x y H Q => ∃ (t : Str) (k : Bool), x = .str t ∧ y = .int (if k then 1 else 0) ∧ Q (.str (if k = true then t else Str.empty)) H) := by
  intro pins s σ H x y v u Q I rx ry h
  obtain ⟨t, k, rfl, rfl, q⟩ := h
  obtain ⟨t1, rfl⟩ := rx
  obtain ⟨t2, rfl⟩ := ry
  cases k with
  | false => exact PySem.P.mul_str_none (by decide) (by decide) ⟨.str Str.empty, H, I.tok _, ⟨_, rfl⟩, q⟩
  | true => exact PySem.P.mul_str (by decide) (fun _ z => by cases z) (fun _ z => by cases z) ⟨.str t, H, I, ⟨_, rfl⟩, q⟩
/-- what == answers -/
def RW (K : PySem.W.Frag) (C : Addr) : Addr → V → Bool → Hp → Prop := fun a y r H => ∃ t b, WAt C H a t b ∧ ((∃ q u d, y = .ref q ∧ WAt C H q u d ∧ r = decide (t = u ∧ b = d)) ∨ (∃ tv, TyX K H y tv ∧ PySem.W.kitOne K tv (.ref C) = some false ∧ r = false))
theorem RW.ext {K : PySem.W.Frag} {C : Addr} (a : Addr) (y : V) (r : Bool) (H H' : Hp) (e : Ext H H') (h : RW K C a y r H) : RW K C a y r H' := by
  obtain ⟨t, b, h1, h2⟩ := h
  refine ⟨t, b, h1.same e, ?_⟩
  rcases h2 with ⟨q, u, d, e1, h3, e2⟩ | ⟨tv, ty, k, e2⟩
  · exact .inl ⟨q, u, d, e1, h3.same e, e2⟩
  · exact .inr ⟨tv, tyX_ext ty e, k, e2⟩
section
variable {P : Program} {w : World} {K : PySem.W.Frag} {mg : Str → Option Value} {base : Heap}
theorem scEq : FnScope ["self", "other"] ["self", "other"] (defScope sEq) := ⟨rfl, rfl, rfl, by decide +kernel, rfl, by decide +kernel, by decide +kernel⟩
theorem ok_eq {f C fW : Addr} {fd : FuncData} (F : Fun K "__eq__" "Weight.__eq__" sEq f fd) (T : WTxt K mg C fW) (B : Blt mg) (N : WIns K C) : FnOk P w K mg base CX0 1 f fd ["self", "other"] (spO (RW K C)) := by
  refine F.ok scEq (fun vs H Q E h => ?_) (fun cdv A outer s H vs Q E hr h => ?_)
  · obtain ⟨a, y, r, rfl, _⟩ := h
    rfl
  · obtain ⟨p, y, r, rfl, ⟨t, b, ⟨dx, hp⟩, h2⟩, k⟩ := h
    have k := k H Ext.rfl'
    refine ⟨_, pss_one (ps_ret (pe_and (pe_callB call_isi (by rfl) B.isi (by decide +kernel) (pa_cons (pv 1) (pa_cons (pe_glob (v := .ref C) rfl T.mgC rfl) pa_nil)))
      (pe_and (pe_cmpR op_eq (pe_fld (pv 0) rfl) (pe_fld (pv 1) rfl) (nomark _)) (pe_one (pe_cmpR op_eq (pe_fld (pv 0) rfl) (pe_fld (pv 1) rfl) (nomark _)))))), ?_⟩
    rcases h2 with ⟨q, u, d, rfl, ⟨dy, hq⟩, rfl⟩ | ⟨tv, ty, kt, rfl⟩
    · refine ⟨_, rfl, _, .ref C, _, _, true, rfl, .own _, .base (.ins hq T.cl N.ha N.hn N.htk N.hm), kit_self, true, rfl, iteT ?_⟩
      refine ⟨_, rfl, p, C, dx, _, _, rfl, hp, T.cl, T.nT, wf_top _ _, _, rfl, q, C, dy, _, _, rfl, hq, T.cl, T.nT, wf_top _ _, rfl, _, rfl, ?_⟩
      refine ite2 (fun h1 => ?_) (fun h1 => ?_)
      · have e1 : t = u := by injection of_decide_eq_true h1
        refine ⟨_, rfl, p, C, dx, _, _, rfl, hp, T.cl, T.nB, wf_bottom _ _, _, rfl, q, C, dy, _, _, rfl, hq, T.cl, T.nB, wf_bottom _ _, rfl, ?_⟩
        have e2 : decide (V.int b = V.int d) = decide (t = u ∧ b = d) := decide_eq_decide.mpr ⟨fun z => ⟨e1, by injection z⟩, fun z => by rw [z.2]⟩
        show Q (.bl (decide (V.int b = V.int d))) H
        rw [e2]
        exact k
      · have e2 : decide (t = u ∧ b = d) = false := decide_eq_false fun z => h1 (decide_eq_true (by rw [z.1]))
        rw [e2] at k
        exact k
    · exact ⟨_, rfl, y, .ref C, _, _, false, rfl, .own _, ty, kt, false, rfl, k⟩
theorem scStr : FnScope ["self"] ["self"] (defScope sStr) := ⟨rfl, rfl, rfl, by decide +kernel, rfl, by decide +kernel, by decide +kernel⟩
theorem ok_str {f C fW fS : Addr} {fd fdS : FuncData} (F : Fun K "__str__" "Weight.__str__" sStr f fd) (T : WTxt K mg C fW) (cS : Cl K mg "show_whole" fS fdS ["number"]) (GS : FnOk P w K mg base CX0 1 fS fdS ["number"] spShow) :
    FnOk P w K mg base CX0 2 f fd ["self"] (spStr C) := by
  refine F.ok scStr (fun vs H Q E h => ?_) (fun cdv A outer s H vs Q E hr h => ?_)
  · obtain ⟨p, t, b, rfl, _⟩ := h
    rfl
  · obtain ⟨p, t, b, rfl, ⟨dx, hp⟩, n1, k⟩ := h
    refine ⟨_, pss_cons (ps_if (pt_cmpR op_eq (pe_fld (pv 0) rfl) pe_int (nomark _)) (pss_one (ps_ret (pe_joined1 (pe_fmt (pe_call GS hr (by rfl) cS.g cS.k cS.b .nil pass0 (pa_cons (pe_fld (pv 0) rfl) pa_nil)))))) pss_nil)
      (pss_one (ps_ret (pe_joined (.cons (pe_fmt (pe_call GS hr (by rfl) cS.g cS.k cS.b .nil pass0 (pa_cons (pe_fld (pv 0) rfl) pa_nil))) (.cons pe_str (.cons (pe_fmt (pe_call GS hr (by rfl) cS.g cS.k cS.b .nil pass0 (pa_cons (pe_fld (pv 0) rfl) pa_nil))) .nil)))))), ?_⟩
    have l1 := nT_len n1.tz
    have l2 := nT_len n1.bz
    have e3 : ("/" : Str).length = 1 := by decide +kernel
    have e4 : (Str.empty : Str).length = 0 := by decide +kernel
    have big : ∀ n, n ≤ 10000 → n ≤ sizeLine := fun n h => Nat.le_trans h (by decide)
    refine ⟨_, rfl, p, C, dx, _, _, rfl, hp, T.cl, T.nB, wf_bottom _ _, rfl, _, rfl, ?_⟩
    refine ite2 (fun h => ?_) (fun h => ?_)
    · have hb : b = 1 := by
        have := of_decide_eq_true h
        injection this
      refine ⟨_, rfl, p, C, dx, _, _, rfl, hp, T.cl, T.nT, wf_top _ _, t, rfl, n1.t0, n1.tz, fun H1 s1 => .inl ⟨nT t, rfl, big _ (by omega), ?_⟩⟩
      have ew : wS t b = nT t := if_pos hb
      have q := k H1 s1
      rw [ew] at q
      exact q
    · have hb : ¬ b = 1 := fun z => h (decide_eq_true (by rw [z]))
      refine ⟨_, rfl, p, C, dx, _, _, rfl, hp, T.cl, T.nT, wf_top _ _, t, rfl, n1.t0, n1.tz, fun H1 s1 => .inl ⟨_, rfl, big _ (by omega), nT t, rfl, big _ (by simp only [append_len]; omega), "/", rfl, big _ (by simp only [append_len]; omega), ?_⟩⟩
      refine ⟨_, rfl, p, C, dx, _, _, rfl, s1 _ _ hp, T.cl, T.nB, wf_bottom _ _, b, rfl, Int.le_of_lt n1.b0, n1.bz, fun H2 s2 => .inl ⟨_, rfl, big _ (by omega), nT b, rfl, big _ (by simp only [append_len]; omega), ?_⟩⟩
      have ew : wS t b = Str.empty ++ nT t ++ "/" ++ nT b := by rw [emp]; exact if_neg hb
      have q := k H2 (s1.trans s2)
      rw [ew] at q
      exact q
theorem scRepr : FnScope ["self"] ["self"] (defScope sRepr) := ⟨rfl, rfl, rfl, by decide +kernel, rfl, by decide +kernel, by decide +kernel⟩
theorem ok_repr {f C fW fS : Addr} {fd fdS : FuncData} (F : Fun K "__repr__" "Weight.__repr__" sRepr f fd) (T : WTxt K mg C fW) (cS : Cl K mg "show_whole" fS fdS ["number"]) (GS : FnOk P w K mg base CX0 1 fS fdS ["number"] spShow) :
    FnOk P w K mg base CX0 2 f fd ["self"] (spRepr C) := by
  refine F.ok scRepr (fun vs H Q E h => ?_) (fun cdv A outer s H vs Q E hr h => ?_)
  · obtain ⟨p, t, b, rfl, _⟩ := h
    rfl
  · obtain ⟨p, t, b, rfl, ⟨dx, hp⟩, n1, k⟩ := h
    refine ⟨_, pss_cons (ps_if (pt_cmpR op_eq (pe_fld (pv 0) rfl) pe_int (nomark _)) (pss_one (ps_ret (pe_joined (.cons pe_str (.cons (pe_fmt (pe_call GS hr (by rfl) cS.g cS.k cS.b .nil pass0 (pa_cons (pe_fld (pv 0) rfl) pa_nil))) (.cons pe_str .nil)))))) pss_nil)
      (pss_one (ps_ret (pe_joined (.cons pe_str (.cons (pe_fmt (pe_call GS hr (by rfl) cS.g cS.k cS.b .nil pass0 (pa_cons (pe_fld (pv 0) rfl) pa_nil))) (.cons pe_str (.cons (pe_fmt (pe_call GS hr (by rfl) cS.g cS.k cS.b .nil pass0 (pa_cons (pe_fld (pv 0) rfl) pa_nil))) (.cons pe_str .nil)))))))), ?_⟩
    have l1 := nT_len n1.tz
    have l2 := nT_len n1.bz
    have e1 : ("Weight(" : Str).length = 7 := by decide +kernel
    have e2 : (")" : Str).length = 1 := by decide +kernel
    have e3 : (", " : Str).length = 2 := by decide +kernel
    have e4 : (Str.empty : Str).length = 0 := by decide +kernel
    have big : ∀ n, n ≤ 10000 → n ≤ sizeLine := fun n h => Nat.le_trans h (by decide)
    refine ⟨_, rfl, p, C, dx, _, _, rfl, hp, T.cl, T.nB, wf_bottom _ _, rfl, _, rfl, ?_⟩
    refine ite2 (fun h => ?_) (fun h => ?_)
    · have hb : b = 1 := by
        have := of_decide_eq_true h
        injection this
      refine ⟨"Weight(", rfl, big _ (by rw [append_len]; omega), _, rfl, p, C, dx, _, _, rfl, hp, T.cl, T.nT, wf_top _ _, t, rfl, n1.t0, n1.tz, fun H1 s1 => .inl ⟨_, rfl, big _ (by omega), nT t, rfl, big _ (by simp only [append_len]; omega), ")", rfl, big _ (by simp only [append_len]; omega), ?_⟩⟩
      have ew : wT t b = Str.empty ++ "Weight(" ++ nT t ++ ")" := if_pos hb
      have q := k H1 s1
      rw [ew] at q
      exact q
    · have hb : ¬ b = 1 := fun z => h (decide_eq_true (by rw [z]))
      refine ⟨"Weight(", rfl, big _ (by rw [append_len]; omega), _, rfl, p, C, dx, _, _, rfl, hp, T.cl, T.nT, wf_top _ _, t, rfl, n1.t0, n1.tz, fun H1 s1 => .inl ⟨_, rfl, big _ (by omega), nT t, rfl, big _ (by simp only [append_len]; omega), ", ", rfl, big _ (by simp only [append_len]; omega), ?_⟩⟩
      refine ⟨_, rfl, p, C, dx, _, _, rfl, s1 _ _ hp, T.cl, T.nB, wf_bottom _ _, b, rfl, Int.le_of_lt n1.b0, n1.bz, fun H2 s2 => .inl ⟨_, rfl, big _ (by omega), nT b, rfl, big _ (by simp only [append_len]; omega), ")", rfl, big _ (by simp only [append_len]; omega), ?_⟩⟩
      have ew : wT t b = Str.empty ++ "Weight(" ++ nT t ++ ", " ++ nT b ++ ")" := if_neg hb
      have q := k H2 (s1.trans s2)
      rw [ew] at q
      exact q
theorem scWritten : FnScope ["_law_top", "_law_bottom"] ["_law_top", "_law_bottom"] (defScope sWritten) := ⟨rfl, rfl, rfl, by decide +kernel, rfl, by decide +kernel, by decide +kernel⟩
theorem ok_written {f fL : Addr} {fd fdL : FuncData} (F : Fun K "_law_written" "_law_written" sWritten f fd) (hst : mg "str" = none) (cL : Cl K mg "_law_lowest" fL fdL ["_law_top", "_law_bottom"]) (GL : FnOk P w K mg base CX0 2 fL fdL ["_law_top", "_law_bottom"] spLow) :
    FnOk P w K mg base CX0 3 f fd ["_law_top", "_law_bottom"] spWritten := by
  refine F.ok scWritten (fun vs H Q E h => ?_) (fun cdv A outer s H vs Q E hr h => ?_)
  · obtain ⟨t, b, rfl, _⟩ := h
    rfl
  · obtain ⟨t, b, rfl, n1, k⟩ := h
    refine ⟨_, pss_cons (ps_asg (pe_call GL hr (by rfl) cL.g cL.k cL.b .nil pass0 (pa_cons (pv 0) (pa_cons (pv 1) pa_nil))) (pg_tup rfl (pgs_cons (pg_name (i := 0) scWritten.nd rfl (Or.inl rfl)) (pgs_cons (pg_name (i := 1) scWritten.nd rfl (Or.inl rfl)) pgs_nil))))
      (pss_cons (ps_if (pt_cmpR op_eq (pv 1) pe_int (nomark _)) (pss_one (ps_ret (pe_callTy call_str_int (by rfl) hst (by decide +kernel) (pa_cons (pv 0) pa_nil)))) pss_nil)
      (pss_one (ps_ret (pe_op op_add_str (pe_op op_add_str (pe_callTy call_str_int (by rfl) hst (by decide +kernel) (pa_cons (pv 0) pa_nil)) pe_str) (pe_callTy call_str_int (by rfl) hst (by decide +kernel) (pa_cons (pv 1) pa_nil)))))), ?_⟩
    have n2 := n1.low
    have big : ∀ n, n ≤ 10000 → n ≤ sizeLine := fun n h => Nat.le_trans h (by decide)
    have e3 : ("/" : Str).length = 1 := by decide +kernel
    have h1 : (nT (lowT t b)).length ≤ 1601 := nT_len (n2.tz.mono (by decide))
    have h2 : (nT (lowB t b)).length ≤ 1601 := nT_len (n2.bz.mono (by decide))
    have z1 : (lowT t b).natAbs.log2 < 1920 := Nat.lt_trans (n2.tz.log (by decide)) (by decide)
    have z2 : (lowB t b).natAbs.log2 < 1920 := Nat.lt_trans (n2.bz.log (by decide)) (by decide)
    refine ⟨_, rfl, _, rfl, t, b, rfl, n1.t0, n1.b0, n1.bz.mono (by decide), fun p hp => ⟨p, _, rfl, SqT.of upd_same, rfl, _, _, rfl, _, _, rfl, rfl, ?_⟩⟩
    have s1 := same_upd (o := .tup [.int (lowT t b), .int (lowB t b)]) hp
    refine ⟨_, rfl, rfl, _, rfl, ite2 (fun h => ?_) (fun h => ?_)⟩
    · have hb : lowB t b = 1 := by injection of_decide_eq_true h
      refine ⟨_, rfl, _, rfl, z1, ?_⟩
      have q := k _ s1
      unfold wS at q
      rw [if_pos hb] at q
      exact q
    · have hb : ¬ lowB t b = 1 := fun z => h (decide_eq_true (by rw [z]))
      refine ⟨_, rfl, _, rfl, z1, nT (lowT t b), "/", rfl, rfl, big _ (by rw [e3]; omega), _, rfl, _, rfl, z2, nT (lowT t b) ++ "/", nT (lowB t b), rfl, rfl, big _ (by rw [append_len, e3]; omega), ?_⟩
      have q := k _ s1
      unfold wS at q
      rw [if_neg hb] at q
      exact q
theorem scShown : FnScope ["_law_top", "_law_bottom"] ["_law_top", "_law_bottom"] (defScope sShown) := ⟨rfl, rfl, rfl, by decide +kernel, rfl, by decide +kernel, by decide +kernel⟩
theorem ok_shown {f fL : Addr} {fd fdL : FuncData} (F : Fun K "_law_shown" "_law_shown" sShown f fd) (hst : mg "str" = none) (hin : mg "int" = none) (cL : Cl K mg "_law_lowest" fL fdL ["_law_top", "_law_bottom"]) (GL : FnOk P w K mg base CX0 2 fL fdL ["_law_top", "_law_bottom"] spLow) :
    FnOk P w K mg base CX0 3 f fd ["_law_top", "_law_bottom"] spShown := by
  refine F.ok scShown (fun vs H Q E h => ?_) (fun cdv A outer s H vs Q E hr h => ?_)
  · obtain ⟨t, b, rfl, _⟩ := h
    rfl
  · obtain ⟨t, b, rfl, n1, k⟩ := h
    refine ⟨_, pss_cons (ps_asg (pe_call GL hr (by rfl) cL.g cL.k cL.b .nil pass0 (pa_cons (pv 0) (pa_cons (pv 1) pa_nil))) (pg_tup rfl (pgs_cons (pg_name (i := 0) scShown.nd rfl (Or.inl rfl)) (pgs_cons (pg_name (i := 1) scShown.nd rfl (Or.inl rfl)) pgs_nil))))
      (pss_one (ps_ret (pe_op op_add_str (pe_op op_add_str (pe_op op_add_str pe_str (pe_callTy call_str_int (by rfl) hst (by decide +kernel) (pa_cons (pv 0) pa_nil)))
        (pe_op op_mulS01 (pe_op op_add_str pe_str (pe_callTy call_str_int (by rfl) hst (by decide +kernel) (pa_cons (pv 1) pa_nil))) (pe_callTy call_int1 (by rfl) hin (by decide +kernel) (pa_cons (pe_cmpR op_ne (pv 1) pe_int (nomark _)) pa_nil)))) pe_str))), ?_⟩
    have n2 := n1.low
    have big : ∀ n, n ≤ 10000 → n ≤ sizeLine := fun n h => Nat.le_trans h (by decide)
    have e1 : ("Weight(" : Str).length = 7 := by decide +kernel
    have e2 : (")" : Str).length = 1 := by decide +kernel
    have e3 : (", " : Str).length = 2 := by decide +kernel
    have e4 : (Str.empty : Str).length = 0 := by decide +kernel
    have h1 : (nT (lowT t b)).length ≤ 1601 := nT_len (n2.tz.mono (by decide))
    have h2 : (nT (lowB t b)).length ≤ 1601 := nT_len (n2.bz.mono (by decide))
    have z1 : (lowT t b).natAbs.log2 < 1920 := Nat.lt_trans (n2.tz.log (by decide)) (by decide)
    have z2 : (lowB t b).natAbs.log2 < 1920 := Nat.lt_trans (n2.bz.log (by decide)) (by decide)
    refine ⟨_, rfl, _, rfl, t, b, rfl, n1.t0, n1.b0, n1.bz.mono (by decide), fun p hp => ⟨p, _, rfl, SqT.of upd_same, rfl, _, _, rfl, _, _, rfl, rfl, ?_⟩⟩
    have s1 := same_upd (o := .tup [.int (lowT t b), .int (lowB t b)]) hp
    refine ⟨_, rfl, _, rfl, z1, "Weight(", nT (lowT t b), rfl, rfl, big _ (by rw [e1]; omega), ?_⟩
    refine ⟨_, rfl, _, rfl, z2, ", ", nT (lowB t b), rfl, rfl, big _ (by rw [e3]; omega), ?_⟩
    refine ⟨_, rfl, rfl, .inr ⟨_, rfl, ", " ++ nT (lowB t b), !decide (V.int (lowB t b) = V.int 1), rfl, rfl, ?_⟩⟩
    have q := k _ s1
    by_cases hb : lowB t b = 1
    · have d : (!decide (V.int (lowB t b) = V.int 1)) = false := by rw [hb]; rfl
      rw [d]
      refine ⟨"Weight(" ++ nT (lowT t b), Str.empty, rfl, rfl, big _ (by rw [append_len, e1, e4]; omega), ?_⟩
      refine ⟨"Weight(" ++ nT (lowT t b) ++ Str.empty, ")", rfl, rfl, big _ (by rw [append_len, append_len, e1, e2, e4]; omega), ?_⟩
      have ew : wT (lowT t b) (lowB t b) = "Weight(" ++ nT (lowT t b) ++ Str.empty ++ ")" := by
        unfold wT
        rw [if_pos hb, emp]
        exact TL.ext_tl (by simp [TL.tl_append]; rfl)
      rw [ew] at q
      exact q
    · have d : (!decide (V.int (lowB t b) = V.int 1)) = true := by rw [decide_eq_false (fun z => hb (by injection z))]; rfl
      rw [d]
      refine ⟨"Weight(" ++ nT (lowT t b), ", " ++ nT (lowB t b), rfl, rfl, big _ (by rw [append_len, append_len, e1, e3]; omega), ?_⟩
      refine ⟨"Weight(" ++ nT (lowT t b) ++ (", " ++ nT (lowB t b)), ")", rfl, rfl, big _ (by simp only [append_len, e1, e2, e3]; omega), ?_⟩
      have ew : wT (lowT t b) (lowB t b) = "Weight(" ++ nT (lowT t b) ++ (", " ++ nT (lowB t b)) ++ ")" := by
        unfold wT
        rw [if_neg hb, emp]
        exact TL.ext_tl (by simp only [TL.tl_append, List.append_assoc])
      rw [ew] at q
      exact q
end
end K
namespace K
open PySem L2 Rp
/-- a built-in type beside the class -/
structure Knd (K : PySem.W.Frag) (C : Addr) (T : String) : Prop where
  sub : PySem.W.subIn K (.ref C) (.type T) = some false
  kit : PySem.W.kitOne K (.type T) (.ref C) = some false
  nf : PySem.W.notFirst K C (.type T) = true
structure Kinds (K : PySem.W.Frag) (C : Addr) : Prop where
  int : Knd K C "int"
  str : Knd K C "str"
  tup : Knd K C "tuple"
  lst : Knd K C "list"
  non : Knd K C "NoneType"
  bl : Knd K C "bool"
  dict : Knd K C "dict"
theorem nf_self {K : PySem.W.Frag} {C : Addr} : PySem.W.notFirst K C (.ref C) = true := by simp [PySem.W.notFirst]
theorem nf_int {K : PySem.W.Frag} {C : Addr} : PySem.W.notFirst K C (.type "int") = true := by rfl
theorem nf_str {K : PySem.W.Frag} {C : Addr} : PySem.W.notFirst K C (.type "str") = true := by rfl
theorem nf_tup {K : PySem.W.Frag} {C : Addr} : PySem.W.notFirst K C (.type "tuple") = true := by rfl
theorem nf_lst {K : PySem.W.Frag} {C : Addr} : PySem.W.notFirst K C (.type "list") = true := by rfl
theorem nf_non {K : PySem.W.Frag} {C : Addr} : PySem.W.notFirst K C (.type "NoneType") = true := by rfl
theorem nf_bl {K : PySem.W.Frag} {C : Addr} : PySem.W.notFirst K C (.type "bool") = true := by rfl
theorem nf_dict {K : PySem.W.Frag} {C : Addr} : PySem.W.notFirst K C (.type "dict") = true := by rfl
theorem wat_uniq {C : Addr} {H : Hp} {p : Addr} {t b u d : Int} (h1 : WAt C H p t b) (h2 : WAt C H p u d) : t = u ∧ b = d := by
  obtain ⟨dx, h1⟩ := h1
  obtain ⟨dy, h2⟩ := h2
  rw [h1] at h2
  injection h2 with h2
  injection h2 with _ _ h2
  constructor
  · have e := wf_top t b
    rw [h2, wf_top] at e
    injection e with e
    injection e with e
    exact e.symm
  · have e := wf_bottom t b
    rw [h2, wf_bottom] at e
    injection e with e
    injection e with e
    exact e.symm
theorem eqv_two (a b c d : Int) : PyData.eqv (.tuple [.int a, .int b]) (.tuple [.int c, .int d]) = decide (a = c ∧ b = d) := by
  show ((a == c) && ((b == d) && true)) = decide (a = c ∧ b = d)
  rw [Bool.and_true]
  by_cases h1 : a = c <;> by_cases h2 : b = d <;> simp [h1, h2]
theorem rw_two {K : PySem.W.Frag} {C : Addr} {H : Hp} {p q : Addr} {t b u d : Int} (h1 : WAt C H p t b) (h2 : WAt C H q u d) : RW K C p (.ref q) (decide (t = u ∧ b = d)) H := ⟨t, b, h1, .inl ⟨q, u, d, rfl, h2, rfl⟩⟩
theorem rw_two' {K : PySem.W.Frag} {C : Addr} {H : Hp} {p q : Addr} {t b u d : Int} (h1 : WAt C H p t b) (h2 : WAt C H q u d) : RW K C q (.ref p) (decide (t = u ∧ b = d)) H := ⟨u, d, h2, .inl ⟨p, t, b, rfl, h1, decide_eq_decide.mpr ⟨fun z => ⟨z.1.symm, z.2.symm⟩, fun z => ⟨z.1.symm, z.2.symm⟩⟩⟩⟩
theorem rw_kind {K : PySem.W.Frag} {C : Addr} {H : Hp} {p : Addr} {t b : Int} {y : V} {T : String} (h1 : WAt C H p t b) (ty : TyX K H y (.type T)) (k : Knd K C T) : RW K C p y false H := ⟨t, b, h1, .inr ⟨_, ty, k.kit, rfl⟩⟩
theorem d_two {K : PySem.W.Frag} {C : Addr} {H : Hp} {p q : Addr} {t b u d : Int} (h1 : WAt C H p t b) (h2 : WAt C H q u d) (N : WIns K C) (c : Cls K C) : DOw K C (RW K C) (.ref q) (.ref p) (decide (t = u ∧ b = d)) H := by
  by_cases e : q = p
  · subst e
    obtain ⟨e1, e2⟩ := wat_uniq h1 h2
    rw [decide_eq_true ⟨e1, e2⟩]
    exact .same
  · obtain ⟨dx, h1'⟩ := id h1
    obtain ⟨dy, h2'⟩ := id h2
    exact .left h2' (.base (.ins h1' c N.ha N.hn N.htk N.hm)) nf_self (fun z => e (by injection z with z; exact z.symm)) (rw_two' h1 h2)
theorem d_kind {K : PySem.W.Frag} {C : Addr} {H : Hp} {p : Addr} {t b : Int} {y : V} {T : String} (h1 : WAt C H p t b) (bk : BackV K H y T) (ty : TyX K H y (.type T)) (k : Knd K C T) (ne : y ≠ .ref p) : DOw K C (RW K C) y (.ref p) false H := by
  obtain ⟨dx, h1'⟩ := id h1
  exact .right h1' bk k.sub ne (rw_kind h1 ty k)
def spTwoR (C : Addr) : Sp := fun vs H Q _ => ∃ (p f q g : Addr) (t b u d : Int), vs = [.ref p, .ref f, .ref q, .ref g] ∧ WAt C H p (lowT t b) (lowB t b) ∧ WAt C H q (lowT u d) (lowB u d) ∧
  H f = some (.tup [.int t, .int b]) ∧ H g = some (.tup [.int u, .int d]) ∧ Wn 200 t b ∧ Wn 200 u d ∧ ∀ H', Same H H' → Q (.bl true) H'
section
variable {P : Program} {w : World} {K : PySem.W.Frag} {mg : Str → Option Value} {base : Heap}
theorem scTwoR : FnScope ["_law_one", "_law_first", "_law_other", "_law_second", "_law_due", "_law_here", "_law_there"] ["_law_one", "_law_first", "_law_other", "_law_second"] (defScope sTwoR) := ⟨rfl, rfl, rfl, by decide +kernel, rfl, by decide +kernel, by decide +kernel⟩
theorem ok_twoR {f C fW fL fE : Addr} {fd fdL fdE : FuncData} (F : Fun K "_law_two_right" "_law_two_right" sTwoR f fd) (T : WTxt K mg C fW) (N : WIns K C) (B : Blt mg) (Kd : Kinds K C) (hrp : mg "repr" = none)
    (cL : Cl K mg "_law_lowest" fL fdL ["_law_top", "_law_bottom"]) (GL : FnOk P w K mg base CX0 2 fL fdL ["_law_top", "_law_bottom"] spLow)
    (O : OwnE K C fE) (GE : FnOk P w K mg base CX0 1 fE fdE ["self", "other"] (spO (RW K C))) (bE : Binds K fdE ["self", "other"] []) : FnOk P w K mg base CX0 4 f fd ["_law_one", "_law_first", "_law_other", "_law_second"] (spTwoR C) := by
  refine F.ok scTwoR (fun vs H Q E h => ?_) (fun cdv A outer s H vs Q E hr h => ?_)
  · obtain ⟨p, f, q, g, t, b, u, d, rfl, _⟩ := h
    rfl
  · obtain ⟨p, f, q, g, t, b, u, d, rfl, hp, hq, hf, hg, n1, n2, k⟩ := h
    have hr1 : Room 1 _ := hr.mono (by decide)
    have hr2 : Room 2 _ := hr.mono (by decide)
    have eB := fun (X : Cx) (F' : FnOk X.prog X.w X.K X.mg X.base CX0 1 fE fdE ["self", "other"] (spO (RW X.K C))) (O' : OwnE X.K C fE) (b' : Binds X.K fdE ["self", "other"] []) => eqB_ow (X := X) (E := E0) F' O' b' pass0
    refine ⟨_, pss_cons (ps_set (i := 4) scTwoR.nd rfl (Or.inl rfl) (pe_cmpR (op_eqD hr.units) (pe_call GL hr2 (by rfl) cL.g cL.k cL.b .nil pass0 (pa_cons (pe_ix ix_tup (pv 1) pe_int (fun _ _ => rfl)) (pa_cons (pe_ix ix_tup (pv 1) pe_int (fun _ _ => rfl)) pa_nil)))
          (pe_call GL hr2 (by rfl) cL.g cL.k cL.b .nil pass0 (pa_cons (pe_ix ix_tup (pv 3) pe_int (fun _ _ => rfl)) (pa_cons (pe_ix ix_tup (pv 3) pe_int (fun _ _ => rfl)) pa_nil))) (nomark _)))
      (pss_cons (ps_for PassesOwn.never rfl (pi_list (pe_lst (pa_cons (pe_tup (pa_cons (pv 0) (pa_cons (pv 2) pa_nil))) (pa_cons (pe_tup (pa_cons (pv 2) (pa_cons (pv 0) pa_nil))) pa_nil))))
          (pg_tup rfl (pgs_cons (pg_name (i := 5) scTwoR.nd rfl (Or.inl rfl)) (pgs_cons (pg_name (i := 6) scTwoR.nd rfl (Or.inl rfl)) pgs_nil)))
        (pss_one (ps_if (PW.pt (pw_or (pt_cmpR op_ne (pe_callB cr_reprB (by rfl) hrp (by decide +kernel) (pa_cons (pe_cmpR (op_eqOwn GE O bE (E := E0) pass0 hr1) (pv 5) (pv 6) (nomark _)) pa_nil)) (pe_callB cr_reprB (by rfl) hrp (by decide +kernel) (pa_cons (pv 4) pa_nil)) (nomark _))
            (pw_or1 (pt_cmpR op_ne (pe_callB cr_reprB (by rfl) hrp (by decide +kernel) (pa_cons (pe_cmpR (op_neOwn GE O bE (E := E0) pass0 hr2) (pv 5) (pv 6) (nomark _)) pa_nil)) (pe_callB cr_reprB (by rfl) hrp (by decide +kernel) (pa_cons (pe_not (pv 4)) pa_nil)) (nomark _))))) (pss_one (ps_ret pe_bl)) pss_nil)))
      (pss_cons (ps_if (PW.pt (pw_or (pt_cmpR op_ne (pe_callB cr_reprB (by rfl) hrp (by decide +kernel) (pa_cons (pe_cmpR (op_inB (mon_ow RW.ext) (eqB_ow GE O bE (E := E0) pass0) hr2) (pv 0) (pe_lst (pa_cons pe_non (pa_cons (pv 2) (pa_cons pe_int pa_nil)))) (by with_unfolding_all rfl)) pa_nil)) (pe_callB cr_reprB (by rfl) hrp (by decide +kernel) (pa_cons (pv 4) pa_nil)) (nomark _))
            (pw_or1 (pt_cmpR op_ne (pe_callB cr_reprB (by rfl) hrp (by decide +kernel) (pa_cons (pe_cmpR (op_eqTB (mon_ow RW.ext) (eqB_ow GE O bE (E := E0) pass0) hr2) (pe_tup (pa_cons (pv 0) (pa_cons pe_int pa_nil))) (pe_tup (pa_cons (pv 2) (pa_cons pe_int pa_nil))) (nomark _)) pa_nil)) (pe_callB cr_reprB (by rfl) hrp (by decide +kernel) (pa_cons (pv 4) pa_nil)) (nomark _))))) (pss_one (ps_ret pe_bl)) pss_nil)
      (pss_one (ps_ret (pe_cmpR op_eq (pe_bm PySem.F.plainAttrs_list PySem.F.slot_list_count PySem.F.type_list_count (mt_countO (mon_ow RW.ext) (eqB_ow GE O bE (E := E0) pass0) hr2) (pe_lst (pa_cons (pv 2) (pa_cons (pv 2) (pa_cons pe_int pa_nil)))) (pa_cons (pv 0) pa_nil))
          (pe_op op_mulW pe_int (pe_callTy call_int1 (by rfl) B.int (by decide +kernel) (pa_cons (pv 4) pa_nil))) (nomark _)))))), ?_⟩
    refine ⟨_, rfl, f, _, _, _, rfl, rfl, SqT.of hf, rfl, _, rfl, f, _, _, _, rfl, rfl, SqT.of hf, rfl, t, b, rfl, n1.t0, n1.b0, n1.bz.mono (by decide), fun p1 h1 => ?_⟩
    have s1 := same_upd (o := .tup [.int (lowT t b), .int (lowB t b)]) h1
    refine ⟨_, rfl, g, _, _, _, rfl, rfl, SqT.of (s1 _ _ hg), rfl, _, rfl, g, _, _, _, rfl, rfl, SqT.of (s1 _ _ hg), rfl, u, d, rfl, n2.t0, n2.b0, n2.bz.mono (by decide), fun p2 h2 => ?_⟩
    have s2 := same_upd (o := .tup [.int (lowT u d), .int (lowB u d)]) h2
    refine ⟨_, _, .tup (SqT.of (s2 _ _ upd_same)) (.cons (.int _) (.cons (.int _) .nil)), .tup (SqT.of upd_same) (.cons (.int _) (.cons (.int _) .nil)), rfl, rfl, ?_⟩
    rw [eqv_two]
    have hp2 := hp.same (s1.trans s2)
    have hq2 := hq.same (s1.trans s2)
    have e2 := s1.trans s2
    generalize upd (upd H p1 (.tup [V.int (lowT t b), V.int (lowB t b)])) p2 (.tup [V.int (lowT u d), V.int (lowB u d)]) = H2 at *
    obtain ⟨due, hdue⟩ : ∃ due, due = decide (lowT t b = lowT u d ∧ lowB t b = lowB u d) := ⟨_, rfl⟩
    rw [← hdue]
    have hdue' : due = decide (lowT u d = lowT t b ∧ lowB u d = lowB t b) := hdue.trans (decide_eq_decide.mpr ⟨fun z => ⟨z.1.symm, z.2.symm⟩, fun z => ⟨z.1.symm, z.2.symm⟩⟩)
    refine ⟨_, rfl, _, rfl, (by show 2 ≤ sizeLine; decide), fun p3 h3 => ⟨_, rfl, _, rfl, (by show 2 ≤ sizeLine; decide), fun p4 h4 => ⟨(by show 2 ≤ sizeLine; decide), fun l hl => ?_⟩⟩⟩
    have s3 := same_upd (o := .tup [.ref p, .ref q]) h3
    have s4 := same_upd (o := .tup [.ref q, .ref p]) h4
    have s5 := same_upd (o := .lst [.ref p3, .ref p4]) hl
    have a3 : (upd (upd (upd H2 p3 (.tup [.ref p, .ref q])) p4 (.tup [.ref q, .ref p])) l (.lst [.ref p3, .ref p4])) p3 = some (.tup [.ref p, .ref q]) := s5 _ _ (s4 _ _ upd_same)
    have a4 : (upd (upd (upd H2 p3 (.tup [.ref p, .ref q])) p4 (.tup [.ref q, .ref p])) l (.lst [.ref p3, .ref p4])) p4 = some (.tup [.ref q, .ref p]) := s5 _ _ upd_same
    have al : (upd (upd (upd H2 p3 (.tup [.ref p, .ref q])) p4 (.tup [.ref q, .ref p])) l (.lst [.ref p3, .ref p4])) l = some (.lst [.ref p3, .ref p4]) := upd_same
    have hp5 := hp2.same ((s3.trans s4).trans s5)
    have hq5 := hq2.same ((s3.trans s4).trans s5)
    have e5 := e2.trans ((s3.trans s4).trans s5)
    generalize upd (upd (upd H2 p3 (.tup [.ref p, .ref q])) p4 (.tup [.ref q, .ref p])) l (.lst [.ref p3, .ref p4]) = H5 at *
    have two : ∀ (i : Nat) (v : V) (H' : Hp), [V.ref p3, V.ref p4][i]? = some v → Same H5 H' → ∃ a x y t' b' u' d', v = .ref a ∧ SqT K H' a [.ref x, .ref y] ∧ WAt C H' x t' b' ∧ WAt C H' y u' d' ∧ due = decide (t' = u' ∧ b' = d') := by
      intro i v H' hv e
      match i, hv with
      | 0, hv => exact ⟨p3, p, q, _, _, _, _, (Option.some.inj hv).symm, SqT.of (e _ _ a3), hp5.same e, hq5.same e, hdue⟩
      | 1, hv => exact ⟨p4, q, p, _, _, _, _, (Option.some.inj hv).symm, SqT.of (e _ _ a4), hq5.same e, hp5.same e, hdue.trans (decide_eq_decide.mpr ⟨fun z => ⟨z.1.symm, z.2.symm⟩, fun z => ⟨z.1.symm, z.2.symm⟩⟩)⟩
      | n + 2, hv => cases hv
    refine ⟨l, rfl, ⟨_, SqL.of al⟩, for_list (K := K) (a := l) (xs := [V.ref p3, V.ref p4]) (fun i σ H' => Same H5 H' ∧ ∃ v5 v6, σ = [some (.ref p), some (.ref f), some (.ref q), some (.ref g), some (.bl due), v5, v6])
      ⟨Same.refl _, none, none, rfl⟩ (fun i σ H' _ ⟨e, _⟩ => e.seq (SqL.of al)) ?_ ?_⟩
    · rintro i v σ H' hv ⟨e6, v5, v6, rfl⟩
      obtain ⟨a, x, y, t', b', u', d', rfl, sa, hx, hy, due'⟩ := two i v H' hv e6
      obtain ⟨dx, hx0⟩ := id hx
      obtain ⟨dy, hy0⟩ := id hy
      refine ⟨a, _, rfl, sa, rfl, _, _, rfl, _, _, rfl, rfl, ?_⟩
      refine ⟨_, rfl, _, rfl, x, dx, _, .ref C, rfl, hx0, .base (.ins hy0 T.cl N.ha N.hn N.htk N.hm), nf_self, x, .ref y, due, rfl, due' ▸ rw_two hx hy, fun H7 e7 => ⟨due, rfl, ?_⟩⟩
      refine ⟨_, rfl, _, rfl, _, rfl, rfl, _, rfl, iteNS rfl ?_⟩
      refine ⟨_, rfl, _, rfl, x, dx, _, .ref C, rfl, e7 _ _ hx0, .base (.ins (e7 _ _ hy0) T.cl N.ha N.hn N.htk N.hm), nf_self, x, .ref y, due, rfl, due' ▸ rw_two (hx.same e7) (hy.same e7), fun H8 e8 => ⟨due, rfl, ?_⟩⟩
      refine ⟨_, rfl, _, rfl, _, rfl, _, rfl, rfl, _, rfl, iteNS rfl ?_⟩
      exact ⟨(e6.trans e7).trans e8, _, _, rfl⟩
    · rintro σ H' ⟨e6, v5, v6, rfl⟩
      have hp6 := hp5.same e6
      have hq6 := hq5.same e6
      have e7 := e5.trans e6
      refine ⟨_, rfl, _, rfl, (by show 3 ≤ sizeLine; decide), fun m hm => ?_⟩
      have sm := same_upd (o := .lst [.non, .ref q, .int 5]) hm
      have hp7 := hp6.same sm
      have hq7 := hq6.same sm
      have e8 := e7.trans sm
      refine ⟨m, _, fun i => if i = 1 then due else false, rfl, upd_same, fun i z hz => ?_, fun H7 x7 => ?_⟩
      · match i, hz with
        | 0, hz => cases hz; exact d_kind hp7 .non (.base .non) Kd.non (by simp)
        | 1, hz => cases hz; exact hdue ▸ d_two hp7 hq7 N T.cl
        | 2, hz => cases hz; exact d_kind hp7 (.int 5) (.base (.int 5)) Kd.int (by simp)
        | n + 3, hz => cases hz
      have r1 : ((List.range 3).any fun i => if i = 1 then due else false) = due := by cases due <;> rfl
      refine ⟨_, rfl, _, rfl, _, rfl, rfl, _, rfl, iteNS (congrArg (fun b : Bool => V.str (Str.ofString (if b = true then "True" else "False"))) r1) ?_⟩
      refine ⟨_, rfl, (by show 2 ≤ sizeLine; decide), fun c1 hc1 => ⟨_, rfl, (by show 2 ≤ sizeLine; decide), fun c2 hc2 => ?_⟩⟩
      have z1 := same_upd (o := .tup [.ref p, .int 1]) hc1
      have z2 := same_upd (o := .tup [.ref q, .int 1]) hc2
      have x9 : Same H7 _ := z1.trans z2
      have hp9 := (hp7.same x7).same x9
      have hq9 := (hq7.same x7).same x9
      refine ⟨c1, c2, _, _, fun i => if i = 0 then due else true, rfl, rfl, SqT.of (z2 _ _ upd_same), SqT.of upd_same, rfl, fun i x y hx hy => ?_, fun H8 x8 => ?_⟩
      · match i, hx, hy with
        | 0, hx, hy => cases hx; cases hy; exact hdue' ▸ d_two hq9 hp9 N T.cl
        | 1, hx, hy => cases hx; cases hy; exact .flat rfl rfl
        | n + 2, hx, hy => cases hx
      have r2 : ((List.range 2).all fun i => if i = 0 then due else true) = due := by cases due <;> rfl
      refine ⟨_, rfl, _, rfl, _, rfl, rfl, _, rfl, iteNS (congrArg (fun b : Bool => V.str (Str.ofString (if b = true then "True" else "False"))) r2) ?_⟩
      refine ⟨_, rfl, _, rfl, (by show 3 ≤ sizeLine; decide), fun m2 hm2 => ⟨.inl ⟨rfl, _, SqL.of upd_same⟩, _, rfl, ?_⟩⟩
      have y1 := same_upd (o := .lst [.ref q, .ref q, .int 1]) hm2
      have hp10 := (hp9.same x8).same y1
      have hq10 := (hq9.same x8).same y1
      refine ⟨m2, _, _, fun i => if i < 2 then due else false, rfl, rfl, upd_same, fun i z hz => ?_, fun H9 x10 => ?_⟩
      · match i, hz with
        | 0, hz => cases hz; exact hdue ▸ d_two hp10 hq10 N T.cl
        | 1, hz => cases hz; exact hdue ▸ d_two hp10 hq10 N T.cl
        | 2, hz => cases hz; exact d_kind hp10 (.int 1) (.base (.int 1)) Kd.int (by simp)
        | n + 3, hz => cases hz
      have kk := k H9 (((((e8.trans x7).trans x9).trans x8).trans y1).trans x10)
      refine ⟨_, rfl, .inr ⟨due, rfl, _, _, rfl, rfl, ?_, rfl, ?_⟩⟩
      · cases due <;> (unfold CMulW; decide)
      · cases due <;> exact kk
end
end K
namespace K
open PySem L2 Rp
theorem pair_text (x : Str) : tupleText [x, listText [x]] = "(" ++ x ++ ", [" ++ x ++ "])" := by
  have e1 : TL.tl ("(" : Str) = [40] := by decide +kernel
  have e2 : TL.tl (")" : Str) = [41] := by decide +kernel
  have e3 : TL.tl (", [" : Str) = [44, 32, 91] := by decide +kernel
  have e4 : TL.tl (", " : Str) = [44, 32] := by decide +kernel
  have e5 : TL.tl ("[" : Str) = [91] := by decide +kernel
  have e6 : TL.tl ("])" : Str) = [93, 41] := by decide +kernel
  have e7 : TL.tl ("]" : Str) = [93] := by decide +kernel
  have e8 : TL.tl ("" : Str) = [] := by decide +kernel
  have e9 : listText [x] = "[" ++ "" ++ x ++ "]" := rfl
  have e10 : tupleText [x, listText [x]] = "(" ++ (x ++ ", " ++ listText [x]) ++ ")" := rfl
  rw [e10, e9]
  exact TL.ext_tl (by simp only [TL.tl_append, e1, e2, e3, e4, e5, e6, e7, e8, List.append_assoc, List.nil_append, List.cons_append])
theorem pair_len {x : Str} (h : x.length ≤ 4000) : (tupleText [x, listText [x]]).length ≤ 8100 := by
  rw [pair_text]
  have e1 : ("(" : Str).length = 1 := by decide +kernel
  have e3 : (", [" : Str).length = 3 := by decide +kernel
  have e6 : ("])" : Str).length = 2 := by decide +kernel
  simp only [append_len, e1, e3, e6]
  omega
/-- one of the others -/
def Oth (K : PySem.W.Frag) (C p : Addr) (H : Hp) (y : V) : Prop := y ≠ .ref p ∧ ∃ T, BackV K H y T ∧ TyX K H y (.type T) ∧ Knd K C T
theorem Oth.same {K : PySem.W.Frag} {C p : Addr} {H H' : Hp} {y : V} (h : Oth K C p H y) (e : Same H H') : Oth K C p H' y := let ⟨n, T, b, t, k⟩ := h; ⟨n, T, b.ext e, tyX_ext t e, k⟩
def spAlone (C : Addr) : Sp := fun vs H Q _ => ∃ (p : Addr) (t b : Int), vs = [.ref p, .int t, .int b] ∧ WAt C H p (lowT t b) (lowB t b) ∧ Wn 200 t b ∧ ∀ H', Same H H' → Q (.bl true) H'
section
variable {P : Program} {w : World} {K : PySem.W.Frag} {mg : Str → Option Value} {base : Heap}
theorem says_pair {X : Cx} {C fR : Addr} {fdR : FuncData} {H : Hp} {l c p : Addr} {t b : Int} (GR : FnOk X.prog X.w X.K X.mg X.base CX0 2 fR fdR ["self"] (spRepr C)) (hs : PySem.W.findIn X.K (.ref C) "__repr__" = some (some (.ref fR)))
    (hf : PySem.W.isFn X.K (.ref fR) = true) (bR : Binds X.K fdR ["self"] []) (hp : WAt C H p t b) (n1 : Wn 1600 t b) (hl : H l = some (.lst [.ref p])) (hc : H c = some (.tup [.ref p, .ref l])) (ne : c ≠ l) : Says X 7 [c, l] H (.ref c) (tupleText [wT t b, listText [wT t b]]) := by
  obtain ⟨dx, hp⟩ := hp
  have one : Says X 3 [] H (.ref p) (wT t b) := says_own (E := E0) GR hs hf bR pass0 hp fun H1 e1 => ⟨p, t, b, rfl, ⟨dx, e1 _ _ hp⟩, n1, fun H' e => ⟨rfl, e⟩⟩
  have lst : Says X 5 [l] H (.ref l) (listText [wT t b]) := says_lst (n := 3) (SqL.of hl) (by simp) rfl fun i x hx => by
    match i, hx with
    | 0, hx => cases hx; exact ⟨_, rfl, one⟩
    | n + 1, hx => cases hx
  refine says_tup (n := 5) (SqT.of hc) (by simpa using ne) rfl fun i x hx => ?_
  match i, hx with
  | 0, hx => cases hx; exact ⟨_, rfl, one.mono (by decide) (by simp)⟩
  | 1, hx => cases hx; exact ⟨_, rfl, lst⟩
  | n + 2, hx => cases hx
theorem scAlone : FnScope ["_law_one", "_law_top", "_law_bottom", "_law_text", "_law_shown_here", "_law_turn", "_law_others", "_law_thing"] ["_law_one", "_law_top", "_law_bottom"] (defScope sAlone) := ⟨rfl, rfl, rfl, by decide +kernel, rfl, by decide +kernel, by decide +kernel⟩
theorem ok_alone {f C fW fWr fSh fIs fE fS fR : Addr} {fd fdWr fdSh fdIs fdE fdS fdR : FuncData} (F : Fun K "_law_alone_right" "_law_alone_right" sAlone f fd) (T : WTxt K mg C fW) (N : WIns K C) (Kd : Kinds K C) (hrp : mg "repr" = none) (hst : mg "str" = none) (hrg : mg "range" = none)
    (cWr : Cl K mg "_law_written" fWr fdWr ["_law_top", "_law_bottom"]) (GWr : FnOk P w K mg base CX0 3 fWr fdWr ["_law_top", "_law_bottom"] spWritten)
    (cSh : Cl K mg "_law_shown" fSh fdSh ["_law_top", "_law_bottom"]) (GSh : FnOk P w K mg base CX0 3 fSh fdSh ["_law_top", "_law_bottom"] spShown)
    (cIs : Cl K mg "_law_is" fIs fdIs ["_law_found", "_law_top", "_law_bottom"]) (GIs : FnOk P w K mg base CX0 3 fIs fdIs ["_law_found", "_law_top", "_law_bottom"] (spIs C))
    (GR : FnOk P w K mg base CX0 2 fR fdR ["self"] (spRepr C)) (rs : PySem.W.findIn K (.ref C) "__repr__" = some (some (.ref fR))) (rf : PySem.W.isFn K (.ref fR) = true) (bR : Binds K fdR ["self"] [])
    (GS : FnOk P w K mg base CX0 2 fS fdS ["self"] (spStr C)) (ss : PySem.W.findIn K (.ref C) "__str__" = some (some (.ref fS))) (sf : PySem.W.isFn K (.ref fS) = true) (bS : Binds K fdS ["self"] [])
    (O : OwnE K C fE) (GE : FnOk P w K mg base CX0 1 fE fdE ["self", "other"] (spO (RW K C))) (bE : Binds K fdE ["self", "other"] []) : FnG P w K mg base CX0 8 f fd ["_law_one", "_law_top", "_law_bottom"] (spAlone C) := by
  refine Fun_okG0 F scAlone (fun vs H Q E h => ?_) (fun cdv A outer s H vs Q E gd hr h => ?_)
  · obtain ⟨p, t, b, rfl, _⟩ := h
    rfl
  · obtain ⟨p, t, b, rfl, hp, n1, k⟩ := h
    have hr1 : Room 1 _ := hr.mono (by decide)
    have hr2 : Room 2 _ := hr.mono (by decide)
    have hr3 : Room 3 _ := hr.mono (by decide)
    have hr4 : Room 4 _ := hr.mono (by decide)
    refine ⟨_, pss_cons (ps_par (i := 3) (j := 4) rfl scAlone.nd rfl rfl (by decide) rfl rfl (pa_cons (pe_call GWr hr3 (by rfl) cWr.g cWr.k cWr.b .nil pass0 (pa_cons (pv 1) (pa_cons (pv 2) pa_nil))) (pa_cons (pe_call GSh hr3 (by rfl) cSh.g cSh.k cSh.b .nil pass0 (pa_cons (pv 1) (pa_cons (pv 2) pa_nil))) pa_nil)) (by rfl))
      (pss_cons (ps_for PassesOwn.never rfl (pi_range1 (by rfl) hrg (pa_cons pe_int pa_nil)) (pg_name (i := 5) scAlone.nd rfl (Or.inl rfl))
        (pss_one (ps_if (PW.pt (pw_or (pt_cmpR op_ne (pe_callTy (cr_strO GS ss sf bS (E := E0) pass0 hr4) (by rfl) hst (by decide +kernel) (pa_cons (pv 0) pa_nil)) (pv 3) (nomark _))
            (pw_or (pt_cmpR op_ne (pe_callB (cr_repr (n := 7) hr gd) (by rfl) hrp (by decide +kernel) (pa_cons (pv 0) pa_nil)) (pv 4) (nomark _))
            (pw_or1 (pt_cmpR op_ne (pe_callB (cr_repr (n := 7) hr gd) (by rfl) hrp (by decide +kernel) (pa_cons (pe_tup (pa_cons (pv 0) (pa_cons (pe_lst (pa_cons (pv 0) pa_nil)) pa_nil))) pa_nil))
              (pe_op op_add_str (pe_op op_add_str (pe_op op_add_str (pe_op op_add_str pe_str (pv 4)) pe_str) (pv 4)) pe_str) (nomark _)))))) (pss_one (ps_ret pe_bl)) pss_nil)))
      (pss_cons (ps_set (i := 6) scAlone.nd rfl (Or.inl rfl) (pe_lst (pa_cons (pv 1) (pa_cons (pv 3) (pa_cons (pv 4) (pa_cons (pe_tup (pa_cons (pv 1) (pa_cons (pv 2) pa_nil))) (pa_cons (pe_lst (pa_cons (pv 0) pa_nil)) (pa_cons (pe_tup (pa_cons (pv 0) pa_nil))
          (pa_cons pe_non (pa_cons pe_bl (pa_cons (pe_disp (pps_cons pe_int (pv 0) pps_nil) rfl rfl (by simp) (by decide)) (pa_cons pe_str (pa_cons pe_int (pa_cons pe_int pa_nil))))))))))))))
      (pss_cons (ps_for PassesOwn.never rfl (pi_list (pv 6)) (pg_name (i := 7) scAlone.nd rfl (Or.inl rfl))
        (pss_one (ps_if (PW.pt (pw_or (pt_cmpR op_isnot_bl (pe_cmpR (op_eqOwn GE O bE (E := E0) pass0 hr1) (pv 0) (pv 7) (nomark _)) pe_bl (nomark _))
            (pw_or (pt_cmpR op_isnot_bl (pe_cmpR (op_eqO GE O bE (E := E0) pass0 hr1) (pv 7) (pv 0) (nomark _)) pe_bl (nomark _))
            (pw_or1 (pt_cmpR op_isnot_bl (pe_cmpR (op_neOwn GE O bE (E := E0) pass0 hr2) (pv 0) (pv 7) (nomark _)) pe_bl (nomark _)))))) (pss_one (ps_ret pe_bl)) pss_nil)))
      (pss_one (ps_ret (pe_and (pe_cmpR (op_notInB (mon_ow RW.ext) (eqB_ow GE O bE (E := E0) pass0) hr2) (pv 0) (pv 6) (by with_unfolding_all rfl)) (pe_one (pe_call GIs hr3 (by rfl) cIs.g cIs.k cIs.b .nil pass0 (pa_cons (pv 0) (pa_cons (pv 1) (pa_cons (pv 2) pa_nil))))))))))), ?_⟩
    have big : ∀ n, n ≤ 10000 → n ≤ sizeLine := fun n h => Nat.le_trans h (by decide)
    refine ⟨_, rfl, _, rfl, t, b, rfl, n1.mono (by decide), fun H1 e1 => ⟨_, rfl, _, rfl, t, b, rfl, n1.mono (by decide), fun H2 e2 => ⟨_, _, rfl, ?_⟩⟩⟩
    have s0 := e1.trans e2
    have nl := n1.low
    have tl1 := wT_len (nl.tz.mono (by decide : 200 ≤ 1600)) (nl.bz.mono (by decide))
    have hp2 := hp.same s0
    refine ⟨2, rfl, by decide, by decide, ?_⟩
    refine for_range (lo := 0) (n := 2) (fun i σ H' => Same H2 H' ∧ ∃ v5, σ = [some (.ref p), some (.int t), some (.int b), some (.str (wS (lowT t b) (lowB t b))), some (.str (wT (lowT t b) (lowB t b))), v5, none, none])
      ⟨Same.refl _, none, rfl⟩ ?_ ?_
    · rintro i σ H' hi ⟨e3, v5, rfl⟩
      have hp3 := hp2.same e3
      obtain ⟨dx, hp3'⟩ := id hp3
      refine ⟨_, rfl, p, dx, _, rfl, hp3', p, _, _, rfl, hp3, nl.mono (by decide), fun H4 e4 => ⟨_, rfl, _, rfl, rfl, _, rfl, iteNS rfl ?_⟩⟩
      have hp4 := hp3.same e4
      obtain ⟨dy, hp4'⟩ := id hp4
      refine ⟨_, rfl, .ref p, wT (lowT t b) (lowB t b), [], rfl, (says_own (E := E0) GR rs rf bR pass0 hp4' fun Hx ex => ⟨p, lowT t b, lowB t b, rfl, hp4.same ex, nl.mono (by decide), fun Hy ey => ⟨rfl, ey⟩⟩ : Says _ 3 [] _ _ _).mono (by decide) (by simp), big _ (by omega), fun H5 e5 => ⟨_, rfl, rfl, _, rfl, iteNS rfl ?_⟩⟩
      refine ⟨_, rfl, _, rfl, (by show 1 ≤ sizeLine; decide), fun l hl => ⟨(by show 2 ≤ sizeLine; decide), fun c hc => ?_⟩⟩
      have x1 := same_upd (o := .lst [.ref p]) hl
      have x2 := same_upd (o := .tup [.ref p, .ref l]) hc
      have ncl : c ≠ l := fun z => by
        rw [z, upd_same] at hc
        cases hc
      have pl := pair_len tl1
      refine ⟨.ref c, _, [c, l], rfl, says_pair GR rs rf bR (((hp4.same e5).same x1).same x2) (nl.mono (by decide)) (x2 _ _ upd_same) upd_same ncl, big _ (by omega), fun H6 e6 => ?_⟩
      have q1 : ("(" : Str).length = 1 := by decide +kernel
      have q3 : (", [" : Str).length = 3 := by decide +kernel
      have q6 : ("])" : Str).length = 2 := by decide +kernel
      refine ⟨_, rfl, "(", _, rfl, rfl, big _ (by rw [q1]; omega), _, ", [", rfl, rfl, big _ (by rw [append_len, q1, q3]; omega), _, rfl, _, _, rfl, rfl, big _ (by simp only [append_len, q1, q3]; omega), _, "])", rfl, rfl, big _ (by simp only [append_len, q1, q3, q6]; omega), ?_⟩
      refine ⟨rfl, _, rfl, iteNS (congrArg V.str (pair_text _)) ?_⟩
      exact ⟨((((e3.trans e4).trans e5).trans x1).trans x2).trans e6, _, rfl⟩
    · rintro σ H' ⟨e3, v5, rfl⟩
      have hp3 := hp2.same e3
      have s3 := s0.trans e3
      refine ⟨_, rfl, _, rfl, _, rfl, _, rfl, _, rfl, (by show 2 ≤ sizeLine; decide), fun c1 h1 => ⟨_, rfl, (by show 1 ≤ sizeLine; decide), fun l2 h2 => ⟨_, rfl, (by show 1 ≤ sizeLine; decide), fun c3 h3 d hd => ?_⟩⟩⟩
      have x1 := same_upd (o := .tup [.int t, .int b]) h1
      have x2 := same_upd (o := .lst [.ref p]) h2
      have x3 := same_upd (o := .tup [.ref p]) h3
      have x4 := same_upd (o := .dK []) hd
      refine ⟨_, rfl, upd_same, [(.inl 0, .ref p)], rfl, (by show 1 ≤ 15; decide), (by show 12 ≤ sizeLine; decide), fun l hl => ?_⟩
      have w1 : H' p ≠ none := fun z => by
        obtain ⟨dx, z2⟩ := hp3
        rw [z] at z2
        cases z2
      have nr : ∀ {Hx : Hp} {c : Addr}, Same H' Hx → Hx c = none → V.ref c ≠ V.ref p := fun {Hx c} e hc z => by
        injection z with z
        rw [z] at hc
        obtain ⟨dx, z2⟩ := hp3
        rw [e _ _ z2] at hc
        cases hc
      have n1' := nr (Same.refl _) h1
      have n2' := nr x1 h2
      have n3' := nr (x1.trans x2) h3
      have n4' := nr ((x1.trans x2).trans x3) hd
      have x5 : Same (upd (upd (upd H' c1 (.tup [.int t, .int b])) l2 (.lst [.ref p])) c3 (.tup [.ref p])) (upd (upd (upd (upd (upd H' c1 (.tup [.int t, .int b])) l2 (.lst [.ref p])) c3 (.tup [.ref p])) d (.dK [])) d (.dK (mergeK [] [(.inl 0, .ref p)]))) := fun y u e => by
        rw [upd_ne (ne_of_none e hd), upd_ne (ne_of_none e hd)]
        exact e
      have x6 := same_upd (o := .lst [.int t, .str (wS (lowT t b) (lowB t b)), .str (wT (lowT t b) (lowB t b)), .ref c1, .ref l2, .ref c3, .non, .bl true, .ref d, .str "", .int 0, .int 1]) hl
      have x7 := ((x1.trans x2).trans x3).trans (x5.trans x6)
      have oth : ∀ (i : Nat) (v : V), [V.int t, .str (wS (lowT t b) (lowB t b)), .str (wT (lowT t b) (lowB t b)), .ref c1, .ref l2, .ref c3, .non, .bl true, .ref d, .str "", .int 0, .int 1][i]? = some v →
          Oth K C p (upd (upd (upd (upd (upd (upd H' c1 (.tup [.int t, .int b])) l2 (.lst [.ref p])) c3 (.tup [.ref p])) d (.dK [])) d (.dK (mergeK [] [(.inl 0, .ref p)]))) l (.lst [.int t, .str (wS (lowT t b) (lowB t b)), .str (wT (lowT t b) (lowB t b)), .ref c1, .ref l2, .ref c3, .non, .bl true, .ref d, .str "", .int 0, .int 1])) v := by
        have y1 := x6 _ _ (x5 _ _ (x3 _ _ (x2 _ _ (upd_same (H := H') (a := c1) (o := HO.tup [.int t, .int b])))))
        have y2 := x6 _ _ (x5 _ _ (x3 _ _ (upd_same (H := upd H' c1 (.tup [.int t, .int b])) (a := l2) (o := HO.lst [.ref p]))))
        have y3 := x6 _ _ (x5 _ _ (upd_same (H := upd (upd H' c1 (.tup [.int t, .int b])) l2 (.lst [.ref p])) (a := c3) (o := HO.tup [.ref p])))
        have y4 := x6 _ _ (upd_same (H := upd (upd (upd (upd H' c1 (.tup [.int t, .int b])) l2 (.lst [.ref p])) c3 (.tup [.ref p])) d (.dK [])) (a := d) (o := HO.dK (mergeK [] [(.inl 0, .ref p)])))
        intro i v hv
        match i, hv with
        | 0, hv => cases hv; exact ⟨by simp, _, .int _, .base (.int _), Kd.int⟩
        | 1, hv => cases hv; exact ⟨by simp, _, .str _, .base (.str _), Kd.str⟩
        | 2, hv => cases hv; exact ⟨by simp, _, .str _, .base (.str _), Kd.str⟩
        | 3, hv => cases hv; exact ⟨n1', _, .tup (SqT.of y1), .base (.tup y1), Kd.tup⟩
        | 4, hv => cases hv; exact ⟨n2', _, .lst y2, .base (.lst y2), Kd.lst⟩
        | 5, hv => cases hv; exact ⟨n3', _, .tup (SqT.of y3), .base (.tup y3), Kd.tup⟩
        | 6, hv => cases hv; exact ⟨by simp, _, .non, .base .non, Kd.non⟩
        | 7, hv => cases hv; exact ⟨by simp, _, .bl _, .base (.bl _), Kd.bl⟩
        | 8, hv => cases hv; exact ⟨n4', _, .dK y4, .base (.dK y4), Kd.dict⟩
        | 9, hv => cases hv; exact ⟨by simp, _, .str _, .base (.str _), Kd.str⟩
        | 10, hv => cases hv; exact ⟨by simp, _, .int _, .base (.int _), Kd.int⟩
        | 11, hv => cases hv; exact ⟨by simp, _, .int _, .base (.int _), Kd.int⟩
        | n + 12, hv => cases hv
      have hL : (upd (upd (upd (upd (upd (upd H' c1 (.tup [.int t, .int b])) l2 (.lst [.ref p])) c3 (.tup [.ref p])) d (.dK [])) d (.dK (mergeK [] [(.inl 0, .ref p)]))) l (.lst [.int t, .str (wS (lowT t b) (lowB t b)), .str (wT (lowT t b) (lowB t b)), .ref c1, .ref l2, .ref c3, .non, .bl true, .ref d, .str "", .int 0, .int 1])) l = some (.lst [.int t, .str (wS (lowT t b) (lowB t b)), .str (wT (lowT t b) (lowB t b)), .ref c1, .ref l2, .ref c3, .non, .bl true, .ref d, .str "", .int 0, .int 1]) := upd_same
      have hp5 := hp3.same x7
      have s5 := s3.trans x7
      generalize (upd (upd (upd (upd (upd (upd H' c1 (.tup [.int t, .int b])) l2 (.lst [.ref p])) c3 (.tup [.ref p])) d (.dK [])) d (.dK (mergeK [] [(.inl 0, .ref p)]))) l (.lst [.int t, .str (wS (lowT t b) (lowB t b)), .str (wT (lowT t b) (lowB t b)), .ref c1, .ref l2, .ref c3, .non, .bl true, .ref d, .str "", .int 0, .int 1])) = H9 at *
      generalize hxs : [V.int t, .str (wS (lowT t b) (lowB t b)), .str (wT (lowT t b) (lowB t b)), .ref c1, .ref l2, .ref c3, .non, .bl true, .ref d, .str "", .int 0, .int 1] = xs at *
      refine ⟨_, rfl, l, rfl, ⟨_, SqL.of hL⟩, for_list (K := K) (a := l) (xs := xs) (fun i σ H' => Same H9 H' ∧ ∃ v7, σ = [some (.ref p), some (.int t), some (.int b), some (.str (wS (lowT t b) (lowB t b))), some (.str (wT (lowT t b) (lowB t b))), v5, some (.ref l), v7])
        ⟨Same.refl _, none, rfl⟩ (fun i σ H' _ ⟨e, _⟩ => e.seq (SqL.of hL)) ?_ ?_⟩
      · rintro i v σ Ha hv ⟨e6, v7, rfl⟩
        obtain ⟨ne, T0, bk, ty, kd⟩ := (oth i v hv).same e6
        have hpa := hp5.same e6
        obtain ⟨dx, hpa'⟩ := id hpa
        refine ⟨_, rfl, _, rfl, p, dx, _, _, rfl, hpa', ty, kd.nf, p, v, false, rfl, rw_kind hpa ty kd, fun Hb eb => ⟨false, rfl, ?_⟩⟩
        refine ⟨_, _, rfl, rfl, _, rfl, iteF ?_⟩
        refine ⟨_, rfl, _, rfl, false, .inr ⟨p, dx, _, T0, rfl, eb _ _ hpa', bk.ext eb, kd.sub, rw_kind (hpa.same eb) (tyX_ext ty eb) kd⟩, fun Hc ec => ?_⟩
        refine ⟨_, _, rfl, rfl, _, rfl, iteF ?_⟩
        refine ⟨_, rfl, _, rfl, p, dx, _, _, rfl, ec _ _ (eb _ _ hpa'), tyX_ext (tyX_ext ty eb) ec, kd.nf, p, v, false, rfl, rw_kind ((hpa.same eb).same ec) (tyX_ext (tyX_ext ty eb) ec) kd, fun Hd ed => ⟨false, rfl, ?_⟩⟩
        refine ⟨_, _, rfl, rfl, _, rfl, iteF ?_⟩
        exact ⟨((e6.trans eb).trans ec).trans ed, _, rfl⟩
      · rintro σ Ha ⟨e6, v7, rfl⟩
        have hpa := hp5.same e6
        refine ⟨_, rfl, _, rfl, l, xs, fun _ => false, rfl, e6 _ _ hL, fun i z hz => ?_, fun Hb eb => ?_⟩
        · obtain ⟨ne, T0, bk, ty, kd⟩ := (oth i z hz).same e6
          exact d_kind hpa bk ty kd ne
        have r1 : ((List.range xs.length).any fun _ => false) = false := by simp
        rw [r1]
        refine ⟨true, rfl, iteT ?_⟩
        refine ⟨_, rfl, _, rfl, _, rfl, p, t, b, rfl, n1.t0, n1.b0, n1.bz.mono (by decide), hpa.same eb, fun Hc ec => ?_⟩
        exact k Hc (((s5.trans e6).trans eb).trans ec)
end
end K
namespace K
open PySem L2 Rp
/-- the pairs in a row -/
def Prs (H : Hp) (xs : List V) : Prop := ∀ (i : Nat) (x : V), xs[i]? = some x → ∃ (a : Addr) (t b : Int), x = .ref a ∧ H a = some (.tup [.int t, .int b]) ∧ Wn 60 t b
theorem Prs.same {H H' : Hp} {xs : List V} (h : Prs H xs) (e : Same H H') : Prs H' xs := fun i x hx => let ⟨a, t, b, h1, h2, h3⟩ := h i x hx; ⟨a, t, b, h1, e _ _ h2, h3⟩
theorem Prs.fw {H H' : Hp} {xs : List V} {d : Addr} (h : Prs H xs) (dk : DeckAt H d) (f : Fw d H H') : Prs H' xs := fun i x hx => by
  obtain ⟨a, t, b, h1, h2, h3⟩ := h i x hx
  refine ⟨a, t, b, h1, f.kp a _ (fun z => ?_) h2, h3⟩
  obtain ⟨_, _, _, h'⟩ := dk
  rw [z, h'] at h2
  cases h2
theorem Prs.cat {H : Hp} {xs ys : List V} (h1 : Prs H xs) (h2 : Prs H ys) : Prs H (xs ++ ys) := fun i x hx => by
  by_cases hi : i < xs.length
  · rw [List.getElem?_append_left hi] at hx
    exact h1 i x hx
  · rw [List.getElem?_append_right (by omega)] at hx
    exact h2 _ x hx
theorem prs_nil {H : Hp} : Prs H [] := fun i x hx => by cases hx
theorem prs_four {H : Hp} {c1 c2 c3 c4 : Addr} {t1 b1 t2 b2 t3 b3 t4 b4 : Int} (h1 : H c1 = some (.tup [.int t1, .int b1])) (h2 : H c2 = some (.tup [.int t2, .int b2])) (h3 : H c3 = some (.tup [.int t3, .int b3])) (h4 : H c4 = some (.tup [.int t4, .int b4]))
    (n1 : Wn 60 t1 b1) (n2 : Wn 60 t2 b2) (n3 : Wn 60 t3 b3) (n4 : Wn 60 t4 b4) : Prs H [.ref c1, .ref c2, .ref c3, .ref c4] := fun i x hx => by
  match i, hx with
  | 0, hx => cases hx; exact ⟨_, _, _, rfl, h1, n1⟩
  | 1, hx => cases hx; exact ⟨_, _, _, rfl, h2, n2⟩
  | 2, hx => cases hx; exact ⟨_, _, _, rfl, h3, n3⟩
  | 3, hx => cases hx; exact ⟨_, _, _, rfl, h4, n4⟩
  | n + 4, hx => cases hx
/-- the Weights made of the pairs -/
def Mds (C : Addr) (H : Hp) (xs ys : List V) : Prop := ∀ (i : Nat) (y : V), ys[i]? = some y → ∃ (p a : Addr) (t b : Int), y = .ref p ∧ xs[i]? = some (.ref a) ∧ H a = some (.tup [.int t, .int b]) ∧ Wn 60 t b ∧ WAt C H p (lowT t b) (lowB t b)
theorem Mds.same {C : Addr} {H H' : Hp} {xs ys : List V} (h : Mds C H xs ys) (e : Same H H') : Mds C H' xs ys := fun i y hy => let ⟨p, a, t, b, h1, h2, h3, h4, h5⟩ := h i y hy; ⟨p, a, t, b, h1, h2, e _ _ h3, h4, h5.same e⟩
theorem Mds.write {C D : Addr} {H : Hp} {xs ys acc : List V} {o : HO} (h : Mds C H xs ys) (hD : H D = some (.lst acc)) : Mds C (upd H D o) xs ys := fun i y hy => by
  obtain ⟨p, a, t, b, h1, h2, h3, h4, ⟨dx, h5⟩⟩ := h i y hy
  refine ⟨p, a, t, b, h1, h2, ?_, h4, dx, ?_⟩
  · rw [upd_ne (fun z => by rw [z, hD] at h3; cases h3)]
    exact h3
  · rw [upd_ne (fun z => by rw [z, hD] at h5; cases h5)]
    exact h5
theorem Mds.snoc {C : Addr} {H : Hp} {xs ys : List V} {p a : Addr} {t b : Int} (h : Mds C H xs ys) (h2 : xs[ys.length]? = some (.ref a)) (h3 : H a = some (.tup [.int t, .int b])) (h4 : Wn 60 t b) (h5 : WAt C H p (lowT t b) (lowB t b)) : Mds C H xs (ys ++ [.ref p]) := fun i y hy => by
  by_cases hi : i < ys.length
  · rw [List.getElem?_append_left hi] at hy
    exact h i y hy
  · have e : i = ys.length := by
      have := List.getElem?_eq_some_iff.mp hy
      obtain ⟨z, _⟩ := this
      rw [List.length_append] at z
      have z' : i < ys.length + 1 := z
      omega
    subst e
    rw [List.getElem?_append_right (Nat.le_refl _), Nat.sub_self] at hy
    cases hy
    exact ⟨p, a, t, b, rfl, h2, h3, h4, h5⟩
def spLaw (K : PySem.W.Frag) : Sp := fun vs H Q _ => ∃ (a : Addr) (ns : List Int), vs = [.ref a] ∧ SqL K H a (ns.map V.int) ∧ ns.length ≤ 63 ∧ ∀ H', Q (.bl true) H'
abbrev lawN : List Str := ["_law_script", "_law_cell", "_law_deck_here", "_law_some", "_law_k", "_law_top", "_law_bottom", "_law_by", "_law_made", "_law_j"]
section
variable {P : Program} {w : World} {K : PySem.W.Frag} {mg : Str → Option Value} {base : Heap}
theorem scLaw : FnScope lawN ["_law_script"] (defScope sLaw) := ⟨rfl, rfl, rfl, by decide +kernel, rfl, by decide +kernel, by decide +kernel⟩
theorem ok_law {f C fW fI fDk fDr fTw fAl f2 : Addr} {fd dI dDk dDr dTw dAl d2 : FuncData} (F : Fun K "law" "law" sLaw f fd) (T : WTxt K mg C fW) (hrg : mg "range" = none) (hen : mg "enumerate" = none)
    (M : Mk K C fI) (GI : FnOk P w K mg base CX0 2 fI dI ["self", "top", "bottom"] (spInit C)) (bI : Binds K dI ["self", "top", "bottom"] [])
    (cDk : Cl K mg "_law_deck" fDk dDk ["_law_cell"]) (GDk : FnOk P w K mg base CX0 1 fDk dDk ["_law_cell"] spDeck)
    (cDr : Cl K mg "_law_draw" fDr dDr ["_law_deck_here", "_law_most"]) (GDr : FnOk P w K mg base CX0 1 fDr dDr ["_law_deck_here", "_law_most"] spDraw)
    (cTw : Cl K mg "_law_two" fTw dTw ["_law_deck_here"]) (GTw : FnOk P w K mg base CX0 2 fTw dTw ["_law_deck_here"] spTwo)
    (cAl : Cl K mg "_law_alone_right" fAl dAl ["_law_one", "_law_top", "_law_bottom"]) (GAl : FnG P w K mg base CX0 8 fAl dAl ["_law_one", "_law_top", "_law_bottom"] (spAlone C))
    (c2 : Cl K mg "_law_two_right" f2 d2 ["_law_one", "_law_first", "_law_other", "_law_second"]) (G2 : FnOk P w K mg base CX0 4 f2 d2 ["_law_one", "_law_first", "_law_other", "_law_second"] (spTwoR C)) : FnG P w K mg base CX0 9 f fd ["_law_script"] (spLaw K) := by
  refine Fun_okG0 F scLaw (fun vs H Q E h => ?_) (fun cdv A outer s H vs Q E gd hr h => ?_)
  · obtain ⟨a, ns, rfl, _⟩ := h
    rfl
  · obtain ⟨a, ns, rfl, hS, hlen, k⟩ := h
    have hr1 : Room 1 _ := hr.mono (by decide)
    have hr2 : Room 2 _ := hr.mono (by decide)
    have hr3 : Room 3 _ := hr.mono (by decide)
    have hr4 : Room 4 _ := hr.mono (by decide)
    refine ⟨_, pss_cons (ps_for PassesOwn.never rfl (pi_list (pe_op op_cat (pe_slice sl_list (pv 0) po_none (po_some pe_int)) (pe_lst (pa_cons pe_int pa_nil)))) (pg_name (i := 1) scLaw.nd rfl (Or.inl rfl))
        (pss_cons (ps_set (i := 2) scLaw.nd rfl (Or.inl rfl) (pe_call GDk hr1 (by rfl) cDk.g cDk.k cDk.b .nil pass0 (pa_cons (pv 1) pa_nil)))
        (pss_cons (ps_set (i := 3) scLaw.nd rfl (Or.inl rfl) (pe_lst pa_nil))
        (pss_cons (ps_for PassesOwn.never rfl (pi_range1 (by rfl) hrg (pa_cons pe_int pa_nil)) (pg_name (i := 4) scLaw.nd rfl (Or.inl rfl))
          (pss_cons (ps_asg (pe_call GTw hr2 (by rfl) cTw.g cTw.k cTw.b .nil pass0 (pa_cons (pv 2) pa_nil)) (pg_tup rfl (pgs_cons (pg_name (i := 5) scLaw.nd rfl (Or.inl rfl)) (pgs_cons (pg_name (i := 6) scLaw.nd rfl (Or.inl rfl)) pgs_nil))))
          (pss_cons (ps_set (i := 7) scLaw.nd rfl (Or.inl rfl) (pe_op op_add pe_int (pe_call GDr hr1 (by rfl) cDr.g cDr.k cDr.b .nil pass0 (pa_cons (pv 2) (pa_cons pe_int pa_nil)))))
          (pss_one (ps_set (i := 3) scLaw.nd rfl (Or.inl rfl) (pe_op op_cat (pv 3) (pe_lst (pa_cons (pe_tup (pa_cons (pv 5) (pa_cons (pv 6) pa_nil))) (pa_cons (pe_tup (pa_cons (pe_op op_mulW (pv 5) (pv 7)) (pa_cons (pe_op op_mulW (pv 6) (pv 7)) pa_nil)))
            (pa_cons (pe_tup (pa_cons (pe_op op_add (pv 5) pe_int) (pa_cons (pv 6) pa_nil))) (pa_cons (pe_tup (pa_cons (pv 5) (pa_cons (pe_op op_add (pv 6) pe_int) pa_nil))) pa_nil)))))))))))
        (pss_cons (ps_setLc (i := 8) (own := [("_law_top", 5), ("_law_bottom", 6)]) (g := gTup K 2 (gCons (gName 5) (gCons (gName 6) gNil))) (tt := tYes) rfl scLaw.nd rfl rfl (sw_true rfl rfl rfl (by decide +kernel)) (pi_list (pv 3)) (blkOk_by (N := lawN) (sc := defScope sLaw) (by decide +kernel))
            (fun _ _ _ _ _ => pg_tup rfl (pgs_cons (pg_name (i := 5) scLaw.nd rfl (Or.inl rfl)) (pgs_cons (pg_name (i := 6) scLaw.nd rfl (Or.inl rfl)) pgs_nil))) (fun _ _ _ _ _ => pts_nil)
            (fun _ _ _ _ _ => pe_make M GI hr3 (by rfl) T.mgC bI .nil pass0 (pa_cons (pv 5) (pa_cons (pv 6) pa_nil))))
        (pss_one (ps_for PassesOwn.never rfl (pi_enum (by rfl) hen (pa_cons (pv 3) pa_nil)) (pg_tup rfl (pgs_cons (pg_name (i := 4) scLaw.nd rfl (Or.inl rfl)) (pgs_cons (pg_tup rfl (pgs_cons (pg_name (i := 5) scLaw.nd rfl (Or.inl rfl)) (pgs_cons (pg_name (i := 6) scLaw.nd rfl (Or.inl rfl)) pgs_nil))) pgs_nil)))
          (pss_cons (ps_if (pt_not (pt_val (pe_callG GAl gd hr (by rfl) cAl.g cAl.k cAl.b .nil pass0 (pa_cons (pe_ix ix_list (pv 8) (pv 4) (fun _ _ => rfl)) (pa_cons (pv 5) (pa_cons (pv 6) pa_nil)))))) (pss_one (ps_ret pe_bl)) pss_nil)
          (pss_one (ps_for PassesOwn.never rfl (pi_range1 (by rfl) hrg (pa_cons (pe_op op_add (pv 4) pe_int) pa_nil)) (pg_name (i := 9) scLaw.nd rfl (Or.inl rfl))
            (pss_one (ps_if (pt_not (pt_val (pe_call G2 hr4 (by rfl) c2.g c2.k c2.b .nil pass0 (pa_cons (pe_ix ix_list (pv 8) (pv 4) (fun _ _ => rfl)) (pa_cons (pe_ix ix_list (pv 3) (pv 4) (fun _ _ => rfl))
              (pa_cons (pe_ix ix_list (pv 8) (pv 9) (fun _ _ => rfl)) (pa_cons (pe_ix ix_list (pv 3) (pv 9) (fun _ _ => rfl)) pa_nil))))))) (pss_one (ps_ret pe_bl)) pss_nil))))))))))))
      (pss_one (ps_ret pe_bl)), ?_⟩
    refine ⟨_, rfl, 10, rfl, a, _, rfl, hS, fun p1 h1 => ⟨(by show 1 ≤ sizeLine; decide), fun p2 h2 => ?_⟩⟩
    have n12 : p1 ≠ p2 := fun z => by rw [← z, upd_same] at h2; cases h2
    have hcut : (cutV (ns.map V.int) none (some 10)).length ≤ 63 := by
      have := cutV_length (ns.map V.int) none (some 10)
      rw [List.length_map] at this
      omega
    refine ⟨p1, p2, _, _, rfl, rfl, by rw [upd_ne n12]; exact upd_same, upd_same, ?_, fun p3 h3 => ?_⟩
    · have e : ([V.int 3] : List V).length = 1 := rfl
      rw [e]
      exact Nat.le_trans (Nat.add_le_add_right hcut 1) (by decide)
    have allz : ∀ (i : Nat) (x : V), (cutV (ns.map V.int) none (some 10) ++ [V.int 3])[i]? = some x → ∃ z, x = .int z := fun i x hx => by
      have hm := List.mem_of_getElem? hx
      rcases List.mem_append.mp hm with z | z
      · have z2 : x ∈ ns.map V.int := List.mem_of_mem_drop (List.mem_of_mem_take z)
        obtain ⟨n, _, e⟩ := List.mem_map.mp z2
        exact ⟨n, e.symm⟩
      · exact ⟨3, List.mem_singleton.mp z⟩
    generalize hH0 : upd (upd (upd H p1 (.lst (cutV (ns.map V.int) none (some 10)))) p2 (.lst [V.int 3])) p3 (.lst (cutV (ns.map V.int) none (some 10) ++ [V.int 3])) = H0
    generalize hcs : cutV (ns.map V.int) none (some 10) ++ [V.int 3] = cs at *
    have hL0 : H0 p3 = some (.lst cs) := by rw [← hH0]; exact upd_same
    refine ⟨p3, rfl, ⟨_, SqL.of hL0⟩, for_list (K := K) (a := p3) (xs := cs) (fun i σ H' => Same H0 H' ∧ ∃ v1 v2 v3 v4 v5 v6 v7 v8 v9, σ = [some (.ref a), v1, v2, v3, v4, v5, v6, v7, v8, v9])
      ⟨Same.refl _, none, none, none, none, none, none, none, none, none, rfl⟩ (fun i σ H' _ ⟨e, _⟩ => e.seq (SqL.of hL0)) ?_ ?_⟩
    · rintro i x σ H' hx ⟨e0, v1, v2, v3, v4, v5, v6, v7, v8, v9, rfl⟩
      obtain ⟨z, rfl⟩ := allz i x hx
      refine ⟨_, rfl, z, rfl, fun d hd H1 d1 q1 => ⟨Nat.zero_le _, fun l hl => ?_⟩⟩
      have e1 : Same H' H1 := fun y o hy => (q1 y (ne_of_none hy hd)).trans hy
      have nld : l ≠ d := d1.ne hl
      refine ⟨6, rfl, by decide, by decide, for_range (lo := 0) (n := 6) (fun j σ H2 => ∃ l xs, (Same H' H2 ∧ DeckAt H2 d ∧ l ≠ d ∧ H2 l = some (.lst xs) ∧ Prs H2 xs ∧ xs.length = 4 * j) ∧ ∃ u4 u5 u6 u7, σ = [some (.ref a), some (.int z), some (.ref d), some (.ref l), u4, u5, u6, u7, v8, v9]) ?_ ?_ ?_⟩
      · exact ⟨l, [], ⟨e1.trans (same_upd hl), d1.upd hl, nld, upd_same, prs_nil, rfl⟩, v4, v5, v6, v7, rfl⟩
      · rintro j σ H2 hj ⟨m, xs, ⟨e2, d2, nm, hm, px, lx⟩, u4, u5, u6, u7, rfl⟩
        refine ⟨_, rfl, d, rfl, d2, fun p t b Hb t0 t1 b0 b1 hp0 hp db fb => ⟨p, _, rfl, SqT.of hp, rfl, _, _, rfl, _, _, rfl, rfl, ?_⟩⟩
        refine ⟨_, rfl, d, 9, rfl, by decide, by decide, db, fun r r0 r1 Hc dc ec => ⟨_, _, rfl, rfl, ?_⟩⟩
        have fc : Fw d H2 Hc := fb.trans (Fw.draw dc ec)
        have tz : Sz 41 t := by show t.natAbs < 2199023255552; omega
        have bz : Sz 41 b := by show b.natAbs < 2199023255552; omega
        have rz : Sz 4 (2 + r) := by show (2 + r).natAbs < 16; omega
        have n1 : Wn 60 t b := ⟨t0, b0, tz.mono (by decide), bz.mono (by decide)⟩
        have n2 : Wn 60 (t * (2 + r)) (b * (2 + r)) := ⟨Int.mul_nonneg t0 (by omega), Int.mul_pos b0 (by omega), (tz.mul rz).mono (by decide), (bz.mul rz).mono (by decide)⟩
        have n3 : Wn 60 (t + 1) b := ⟨by omega, b0, by show (t + 1).natAbs < 1152921504606846976; omega, bz.mono (by decide)⟩
        have n4 : Wn 60 t (b + 1) := ⟨t0, by omega, tz.mono (by decide), by show (b + 1).natAbs < 1152921504606846976; omega⟩
        have hmc := fc.kp m _ nm hm
        have pxc := px.fw d2 fc
        have ecc : Same H' Hc := fun y u e => fc.kp y u (ne_of_none e (Fw.same (d := d) (fun q o h => h) d hd)) (e2 y u e)
        refine ⟨_, rfl, _, rfl, _, rfl, (by show 2 ≤ sizeLine; decide), fun c1 h1 => ⟨_, rfl, _, rfl, _, _, rfl, rfl, tz.mulOk rz (by decide) (by decide) (by decide), _, rfl, _, rfl, _, _, rfl, rfl, bz.mulOk rz (by decide) (by decide) (by decide), (by show 2 ≤ sizeLine; decide), fun c2 h2 =>
          ⟨_, rfl, _, _, rfl, rfl, _, rfl, (by show 2 ≤ sizeLine; decide), fun c3 h3 => ⟨_, rfl, _, rfl, _, _, rfl, rfl, (by show 2 ≤ sizeLine; decide), fun c4 h4 => ⟨(by show 4 ≤ sizeLine; decide), fun l5 h5 => ?_⟩⟩⟩⟩⟩
        have s1 := same_upd (o := .tup [.int t, .int b]) h1
        have s2 := same_upd (o := .tup [.int (t * (2 + r)), .int (b * (2 + r))]) h2
        have s3 := same_upd (o := .tup [.int (t + 1), .int b]) h3
        have s4 := same_upd (o := .tup [.int t, .int (b + 1)]) h4
        have s5 := same_upd (o := .lst [.ref c1, .ref c2, .ref c3, .ref c4]) h5
        have len4 : xs.length + 4 ≤ 1000 := by rw [lx]; omega
        refine ⟨m, l5, xs, [.ref c1, .ref c2, .ref c3, .ref c4], rfl, rfl, s5 _ _ (s4 _ _ (s3 _ _ (s2 _ _ (s1 _ _ hmc)))), upd_same, (show xs.length + 4 ≤ sizeLine from Nat.le_trans len4 (by decide)), fun l6 h6 => ?_⟩
        have s6 := same_upd (o := .lst (xs ++ [.ref c1, .ref c2, .ref c3, .ref c4])) h6
        have sall : Same Hc _ := s1.trans (s2.trans (s3.trans (s4.trans (s5.trans s6))))
        have y1 := (s2.trans (s3.trans (s4.trans (s5.trans s6)))) _ _ (upd_same (H := Hc) (a := c1) (o := HO.tup [.int t, .int b]))
        have y2 := (s3.trans (s4.trans (s5.trans s6))) _ _ (upd_same (a := c2) (o := HO.tup [.int (t * (2 + r)), .int (b * (2 + r))]))
        have y3 := (s4.trans (s5.trans s6)) _ _ (upd_same (a := c3) (o := HO.tup [.int (t + 1), .int b]))
        have y4 := (s5.trans s6) _ _ (upd_same (a := c4) (o := HO.tup [.int t, .int (b + 1)]))
        have dd := dc.same (s1.trans (s2.trans (s3.trans (s4.trans s5))))
        exact ⟨l6, _, ⟨ecc.trans sall, dc.same sall, dd.ne h6, upd_same, (pxc.same sall).cat (prs_four y1 y2 y3 y4 n1 n2 n3 n4), by rw [List.length_append, lx]; show 4 * j + 4 = 4 * (j + 1); omega⟩, _, _, _, _, rfl⟩
      · rintro σ H2 ⟨m, xs, ⟨e2, d2, nm, hm, px, lx⟩, u4, u5, u6, u7, rfl⟩
        refine ⟨_, rfl, m, rfl, ⟨_, SqL.of hm⟩, fun D hD => ?_⟩
        have sD := same_upd (o := .lst []) hD
        refine lc_list (K := K) (a := m) (xs := xs) (fun i H3 => Same H2 H3 ∧ ∃ ys, H3 D = some (.lst ys) ∧ ys.length = i ∧ Mds C H3 xs ys) ⟨sD, [], upd_same, rfl, fun i y hy => by cases hy⟩ (fun i H3 _ ⟨e3, _⟩ => e3.seq (SqL.of hm)) ?_ ?_
        · rintro i x H3 hx ⟨e3, ys, hys, ly, my⟩
          obtain ⟨a2, t, b, rfl, ha, n1⟩ := px i x hx
          refine ⟨a2, _, rfl, SqT.of (e3 _ _ ha), rfl, _, _, rfl, _, _, rfl, rfl, rfl, tYes_of ?_⟩
          rw [if_pos rfl]
          refine ⟨_, rfl, _, rfl, ?_⟩
          intro x dx nx ndx ne
          have sm := same_make (C := C) (fs := wf (lowT t b) (lowB t b)) nx ndx
          refine ⟨x, dx, t, b, rfl, upd_same, n1.t0, n1.b0, n1.bz.mono (by decide), rfl, ys, sm _ _ hys, small1000 ?_, ?_⟩
          · have := (List.getElem?_eq_some_iff.mp hx).1
            rw [lx] at this
            omega
          have wx : WAt C (upd (upd (upd H3 dx (.own x)) x (.ins C dx [])) x (.ins C dx (wf (lowT t b) (lowB t b)))) x (lowT t b) (lowB t b) := ⟨dx, upd_same⟩
          have e4 := e3.trans sm
          refine ⟨fun y u e => ?_, _, upd_same, by rw [List.length_append, ly]; rfl, ((my.same sm).snoc (by rw [ly]; exact hx) (e4 _ _ ha) n1 wx).write (sm _ _ hys)⟩
          rw [upd_ne (ne_of_none e hD)]
          exact e4 _ _ e
        · rintro H3 ⟨e3, ys, hys, ly, my⟩
          refine ⟨_, rfl, m, xs, rfl, SqL.of (e3 _ _ hm), for_it (walk_enum (K := K) (a := m) (xs := xs)) (fun i σ H' => Same H3 H' ∧ ∃ u4 u5 u6 u7 v9, σ = [some (.ref a), some (.int z), some (.ref d), some (.ref m), u4, u5, u6, u7, some (.ref D), v9])
            ⟨Same.refl _, u4, u5, u6, u7, v9, rfl⟩ (fun i σ H' _ ⟨e, _⟩ => e.seq (SqL.of (e3 _ _ hm))) ?_ ?_⟩
          · rintro i x σ H4 H5 hi ⟨e4, u4, u5, u6, u7, v9, rfl⟩ ⟨Tp, x1, x2, rfl, hT, rfl, g1, g2⟩
            cases g1
            have hi' : i < ys.length := by rw [ly]; exact hi
            have gy := List.getElem?_eq_getElem hi'
            obtain ⟨p, a2, t, b, ep, hxa, ha, n1, wp⟩ := my i _ gy
            have g2 : xs[i]? = some x2 := g2
            rw [hxa] at g2
            cases g2
            rw [ep] at gy
            have sT := same_upd (o := .tup [.int (i : Nat), .ref a2]) hT
            have e5 := e4.trans sT
            have lxx : i < 24 := by rw [lx] at hi; omega
            refine ⟨Tp, _, rfl, SqT.of upd_same, rfl, _, _, rfl, _, _, rfl, a2, _, rfl, SqT.of (e5 _ _ ha), rfl, _, _, rfl, _, _, rfl, rfl, rfl, ?_⟩
            refine ⟨_, rfl, _, rfl, D, _, (i : Int), _, rfl, rfl, SqL.of (e5 _ _ hys), atI_nat gy, _, rfl, _, rfl, p, t, b, rfl, wp.same e5, n1.mono (by decide), fun H6 e6 => ⟨true, rfl, iteF ?_⟩⟩
            have e7 := e5.trans e6
            refine ⟨_, rfl, _, _, rfl, rfl, (i : Int) + 1, rfl, by omega, by omega, for_range (lo := 0) (n := ((i : Int) + 1).toNat) (fun j σ H' => Same H6 H' ∧ ∃ v9, σ = [some (.ref a), some (.int z), some (.ref d), some (.ref m), some (.int (i : Nat)), some (.int t), some (.int b), u7, some (.ref D), v9]) ⟨Same.refl _, v9, rfl⟩ ?_ ?_⟩
            · rintro j σ H7 hj ⟨e8, v9, rfl⟩
              have hj' : j < ys.length := by omega
              have gj := List.getElem?_eq_getElem hj'
              obtain ⟨q, a3, u, c, eq, hxc, hc, n2, wq⟩ := my j _ gj
              rw [eq] at gj
              have e9 := e7.trans e8
              have ej : (0 : Int) + (j : Int) = (j : Int) := Int.zero_add _
              refine ⟨_, rfl, _, rfl, D, _, (i : Int), _, rfl, rfl, SqL.of (e9 _ _ hys), atI_nat gy, _, rfl, _, rfl, m, _, (i : Int), _, rfl, rfl, SqL.of (e9 _ _ (e3 _ _ hm)), atI_nat hxa, ?_⟩
              refine ⟨_, rfl, _, rfl, D, _, (0 : Int) + (j : Int), _, rfl, rfl, SqL.of (e9 _ _ hys), by rw [ej]; exact atI_nat gj, _, rfl, _, rfl, m, _, (0 : Int) + (j : Int), _, rfl, rfl, SqL.of (e9 _ _ (e3 _ _ hm)), by rw [ej]; exact atI_nat hxc, ?_⟩
              refine ⟨p, a2, q, a3, t, b, u, c, rfl, wp.same e9, wq.same e9, e9 _ _ ha, e9 _ _ hc, n1.mono (by decide), n2.mono (by decide), fun H8 x8 => ⟨true, rfl, iteF ?_⟩⟩
              exact ⟨e8.trans x8, _, rfl⟩
            · rintro σ H7 ⟨e8, v9, rfl⟩
              exact ⟨e7.trans e8, _, _, _, _, _, rfl⟩
          · rintro σ H4 ⟨e4, u4, u5, u6, u7, v9, rfl⟩
            exact ⟨e0.trans ((e2.trans e3).trans e4), _, _, _, _, _, _, _, _, _, rfl⟩
    · rintro σ H' ⟨e, v1, v2, v3, v4, v5, v6, v7, v8, v9, rfl⟩
      exact k _
end
end K
namespace K
open PySem L2 Rp
theorem bindsI {K : PySem.W.Frag} {f : Addr} {fd : FuncData} (F : FunI K f fd) : Binds K fd ["self", "top", "bottom"] [] := by
  obtain ⟨ds, v, b⟩ := F.binds1 (ps := ["self", "top", "bottom"]) 3 1 (by simp) rfl fun T kV dc pm an cd ct us its hu hi => match us, its, hu, hi with | [_, _, _], [_], _, _ => ⟨_, rfl, rfl⟩
  cases v
  exact b
theorem bindsI1 {K : PySem.W.Frag} {f : Addr} {fd : FuncData} (F : FunI K f fd) : ∃ ds, Vals [V.int 1] ds ∧ Binds K fd ["self", "top", "bottom"] ds := by
  obtain ⟨ds, v, b⟩ := F.binds1 (ps := ["self", "top", "bottom"]) 2 0 (by simp) rfl fun T kV dc pm an cd ct us its hu hi => match us, its, hu, hi with | [_, _], [_], _, _ => ⟨_, rfl, rfl⟩
  exact ⟨ds, v, b⟩
theorem all_mk {l : PySem.W.OpenLaw} {w : World} {K : PySem.W.Frag} {h : Heap} {mg : Str → Option Value} {fa C fI fE fS fR fSh fW fDk fDr fLW fDv fTw fLo fIs fWr fSn fAl fT2 fLaw : Addr} (X : K.In h) (G : h.Ns mainGlobals mg) (hfa : mg "law" = some (.ref fa))
    {odI anI : Option Addr} {slI : Array (Option Value)} {ocI kVI dcI pmI cdI ctI : Value}
    {ocDI : Value} {odDI : Option Addr} {nDI : Nat} {slDI : Array (Option Value)} {tkDI : Tok} {DI : Addr}
    {odE anE : Option Addr} {slE : Array (Option Value)} {ocE kVE dcE pmE cdE ctE : Value}
    {odS anS : Option Addr} {slS : Array (Option Value)} {ocS kVS dcS pmS cdS ctS : Value}
    {odR anR : Option Addr} {slR : Array (Option Value)} {ocR kVR dcR pmR cdR ctR : Value}
    {odSh anSh : Option Addr} {slSh : Array (Option Value)} {ocSh kVSh dcSh pmSh cdSh ctSh : Value}
    {odW anW : Option Addr} {slW : Array (Option Value)} {ocW kVW dcW pmW cdW ctW : Value}
    {odDk anDk : Option Addr} {slDk : Array (Option Value)} {ocDk kVDk dcDk pmDk cdDk ctDk : Value}
    {odDr anDr : Option Addr} {slDr : Array (Option Value)} {ocDr kVDr dcDr pmDr cdDr ctDr : Value}
    {odLW anLW : Option Addr} {slLW : Array (Option Value)} {ocLW kVLW dcLW pmLW cdLW ctLW : Value}
    {odDv anDv : Option Addr} {slDv : Array (Option Value)} {ocDv kVDv dcDv pmDv cdDv ctDv : Value}
    {odTw anTw : Option Addr} {slTw : Array (Option Value)} {ocTw kVTw dcTw pmTw cdTw ctTw : Value}
    {odLo anLo : Option Addr} {slLo : Array (Option Value)} {ocLo kVLo dcLo pmLo cdLo ctLo : Value}
    {odIs anIs : Option Addr} {slIs : Array (Option Value)} {ocIs kVIs dcIs pmIs cdIs ctIs : Value}
    {odWr anWr : Option Addr} {slWr : Array (Option Value)} {ocWr kVWr dcWr pmWr cdWr ctWr : Value}
    {odSn anSn : Option Addr} {slSn : Array (Option Value)} {ocSn kVSn dcSn pmSn cdSn ctSn : Value}
    {odAl anAl : Option Addr} {slAl : Array (Option Value)} {ocAl kVAl dcAl pmAl cdAl ctAl : Value}
    {odT2 anT2 : Option Addr} {slT2 : Array (Option Value)} {ocT2 kVT2 dcT2 pmT2 cdT2 ctT2 : Value}
    {odLaw anLaw : Option Addr} {slLaw : Array (Option Value)} {ocLaw kVLaw dcLaw pmLaw cdLaw ctLaw : Value}
    {zB : Int} {tB : Tok}
    (aC : PySem.W.nsIn K mainGlobals "Weight" = some (some (.ref C)))
    (aI : PySem.W.findIn K (.ref C) "__init__" = some (some (.ref fI)))
    (iI : PySem.W.isFn K (.ref fI) = true)
    (lI : K.lookup fI = some ⟨ocI, odI, .func (PySem.W.fnOf "__init__" "Weight.__init__" (defArgs sInit) (defBody sInit) (defScope sInit) (.ref DI) kVI dcI pmI anI cdI ctI), slI⟩)
    (cI : PySem.W.codeIn K cdI "Weight.__init__" = true)
    (kI : PySem.W.keepIn K (.ref fI) = true)
    (lDI : K.lookup DI = some ⟨ocDI, odDI, .seq ([Value.int 1 tkDI] : List Value).toArray nDI, slDI⟩)
    (aE : PySem.W.findIn K (.ref C) "__eq__" = some (some (.ref fE)))
    (iE : PySem.W.isFn K (.ref fE) = true)
    (lE : K.lookup fE = some ⟨ocE, odE, .func (PySem.W.fnOf "__eq__" "Weight.__eq__" (defArgs sEq) (defBody sEq) (defScope sEq) .none kVE dcE pmE anE cdE ctE), slE⟩)
    (cE : PySem.W.codeIn K cdE "Weight.__eq__" = true)
    (kE : PySem.W.keepIn K (.ref fE) = true)
    (aS : PySem.W.findIn K (.ref C) "__str__" = some (some (.ref fS)))
    (iS : PySem.W.isFn K (.ref fS) = true)
    (lS : K.lookup fS = some ⟨ocS, odS, .func (PySem.W.fnOf "__str__" "Weight.__str__" (defArgs sStr) (defBody sStr) (defScope sStr) .none kVS dcS pmS anS cdS ctS), slS⟩)
    (cS : PySem.W.codeIn K cdS "Weight.__str__" = true)
    (kS : PySem.W.keepIn K (.ref fS) = true)
    (aR : PySem.W.findIn K (.ref C) "__repr__" = some (some (.ref fR)))
    (iR : PySem.W.isFn K (.ref fR) = true)
    (lR : K.lookup fR = some ⟨ocR, odR, .func (PySem.W.fnOf "__repr__" "Weight.__repr__" (defArgs sRepr) (defBody sRepr) (defScope sRepr) .none kVR dcR pmR anR cdR ctR), slR⟩)
    (cR : PySem.W.codeIn K cdR "Weight.__repr__" = true)
    (kR : PySem.W.keepIn K (.ref fR) = true)
    (aSh : PySem.W.nsIn K mainGlobals "show_whole" = some (some (.ref fSh)))
    (lSh : K.lookup fSh = some ⟨ocSh, odSh, .func (PySem.W.fnOf "show_whole" "show_whole" (defArgs sShow) (defBody sShow) (defScope sShow) .none kVSh dcSh pmSh anSh cdSh ctSh), slSh⟩)
    (cSh : PySem.W.codeIn K cdSh "show_whole" = true)
    (kSh : PySem.W.keepIn K (.ref fSh) = true)
    (aW : PySem.W.nsIn K mainGlobals "is_whole" = some (some (.ref fW)))
    (lW : K.lookup fW = some ⟨ocW, odW, .func (PySem.W.fnOf "is_whole" "is_whole" (defArgs sWhole) (defBody sWhole) (defScope sWhole) .none kVW dcW pmW anW cdW ctW), slW⟩)
    (cW : PySem.W.codeIn K cdW "is_whole" = true)
    (kW : PySem.W.keepIn K (.ref fW) = true)
    (aDk : PySem.W.nsIn K mainGlobals "_law_deck" = some (some (.ref fDk)))
    (lDk : K.lookup fDk = some ⟨ocDk, odDk, .func (PySem.W.fnOf "_law_deck" "_law_deck" (defArgs sDeck) (defBody sDeck) (defScope sDeck) .none kVDk dcDk pmDk anDk cdDk ctDk), slDk⟩)
    (cDk : PySem.W.codeIn K cdDk "_law_deck" = true)
    (kDk : PySem.W.keepIn K (.ref fDk) = true)
    (aDr : PySem.W.nsIn K mainGlobals "_law_draw" = some (some (.ref fDr)))
    (lDr : K.lookup fDr = some ⟨ocDr, odDr, .func (PySem.W.fnOf "_law_draw" "_law_draw" (defArgs sDraw) (defBody sDraw) (defScope sDraw) .none kVDr dcDr pmDr anDr cdDr ctDr), slDr⟩)
    (cDr : PySem.W.codeIn K cdDr "_law_draw" = true)
    (kDr : PySem.W.keepIn K (.ref fDr) = true)
    (aLW : PySem.W.nsIn K mainGlobals "_law_whole" = some (some (.ref fLW)))
    (lLW : K.lookup fLW = some ⟨ocLW, odLW, .func (PySem.W.fnOf "_law_whole" "_law_whole" (defArgs sLWhole) (defBody sLWhole) (defScope sLWhole) .none kVLW dcLW pmLW anLW cdLW ctLW), slLW⟩)
    (cLW : PySem.W.codeIn K cdLW "_law_whole" = true)
    (kLW : PySem.W.keepIn K (.ref fLW) = true)
    (aDv : PySem.W.nsIn K mainGlobals "_law_divides" = some (some (.ref fDv)))
    (lDv : K.lookup fDv = some ⟨ocDv, odDv, .func (PySem.W.fnOf "_law_divides" "_law_divides" (defArgs sDiv) (defBody sDiv) (defScope sDiv) .none kVDv dcDv pmDv anDv cdDv ctDv), slDv⟩)
    (cDv : PySem.W.codeIn K cdDv "_law_divides" = true)
    (kDv : PySem.W.keepIn K (.ref fDv) = true)
    (aTw : PySem.W.nsIn K mainGlobals "_law_two" = some (some (.ref fTw)))
    (lTw : K.lookup fTw = some ⟨ocTw, odTw, .func (PySem.W.fnOf "_law_two" "_law_two" (defArgs sTwo) (defBody sTwo) (defScope sTwo) .none kVTw dcTw pmTw anTw cdTw ctTw), slTw⟩)
    (cTw : PySem.W.codeIn K cdTw "_law_two" = true)
    (kTw : PySem.W.keepIn K (.ref fTw) = true)
    (aLo : PySem.W.nsIn K mainGlobals "_law_lowest" = some (some (.ref fLo)))
    (lLo : K.lookup fLo = some ⟨ocLo, odLo, .func (PySem.W.fnOf "_law_lowest" "_law_lowest" (defArgs sLow) (defBody sLow) (defScope sLow) .none kVLo dcLo pmLo anLo cdLo ctLo), slLo⟩)
    (cLo : PySem.W.codeIn K cdLo "_law_lowest" = true)
    (kLo : PySem.W.keepIn K (.ref fLo) = true)
    (aIs : PySem.W.nsIn K mainGlobals "_law_is" = some (some (.ref fIs)))
    (lIs : K.lookup fIs = some ⟨ocIs, odIs, .func (PySem.W.fnOf "_law_is" "_law_is" (defArgs sIs) (defBody sIs) (defScope sIs) .none kVIs dcIs pmIs anIs cdIs ctIs), slIs⟩)
    (cIs : PySem.W.codeIn K cdIs "_law_is" = true)
    (kIs : PySem.W.keepIn K (.ref fIs) = true)
    (aWr : PySem.W.nsIn K mainGlobals "_law_written" = some (some (.ref fWr)))
    (lWr : K.lookup fWr = some ⟨ocWr, odWr, .func (PySem.W.fnOf "_law_written" "_law_written" (defArgs sWritten) (defBody sWritten) (defScope sWritten) .none kVWr dcWr pmWr anWr cdWr ctWr), slWr⟩)
    (cWr : PySem.W.codeIn K cdWr "_law_written" = true)
    (kWr : PySem.W.keepIn K (.ref fWr) = true)
    (aSn : PySem.W.nsIn K mainGlobals "_law_shown" = some (some (.ref fSn)))
    (lSn : K.lookup fSn = some ⟨ocSn, odSn, .func (PySem.W.fnOf "_law_shown" "_law_shown" (defArgs sShown) (defBody sShown) (defScope sShown) .none kVSn dcSn pmSn anSn cdSn ctSn), slSn⟩)
    (cSn : PySem.W.codeIn K cdSn "_law_shown" = true)
    (kSn : PySem.W.keepIn K (.ref fSn) = true)
    (aAl : PySem.W.nsIn K mainGlobals "_law_alone_right" = some (some (.ref fAl)))
    (lAl : K.lookup fAl = some ⟨ocAl, odAl, .func (PySem.W.fnOf "_law_alone_right" "_law_alone_right" (defArgs sAlone) (defBody sAlone) (defScope sAlone) .none kVAl dcAl pmAl anAl cdAl ctAl), slAl⟩)
    (cAl : PySem.W.codeIn K cdAl "_law_alone_right" = true)
    (kAl : PySem.W.keepIn K (.ref fAl) = true)
    (aT2 : PySem.W.nsIn K mainGlobals "_law_two_right" = some (some (.ref fT2)))
    (lT2 : K.lookup fT2 = some ⟨ocT2, odT2, .func (PySem.W.fnOf "_law_two_right" "_law_two_right" (defArgs sTwoR) (defBody sTwoR) (defScope sTwoR) .none kVT2 dcT2 pmT2 anT2 cdT2 ctT2), slT2⟩)
    (cT2 : PySem.W.codeIn K cdT2 "_law_two_right" = true)
    (kT2 : PySem.W.keepIn K (.ref fT2) = true)
    (aLaw : PySem.W.nsIn K mainGlobals "law" = some (some (.ref fLaw)))
    (lLaw : K.lookup fLaw = some ⟨ocLaw, odLaw, .func (PySem.W.fnOf "law" "law" (defArgs sLaw) (defBody sLaw) (defScope sLaw) .none kVLaw dcLaw pmLaw anLaw cdLaw ctLaw), slLaw⟩)
    (cLaw : PySem.W.codeIn K cdLaw "law" = true)
    (kLaw : PySem.W.keepIn K (.ref fLaw) = true)
    (pg : PySem.W.plainGet K C Str.empty = true)
    (hd : PySem.W.hasDictIn K C = true)
    (po : PySem.W.plainOver K C = true)
    (sa : PySem.W.findIn K (.ref C) "__setattr__" = some (some (.builtin "object.__setattr__")))
    (mk : PySem.W.makesIn K C = true)
    (kc : PySem.W.keepIn K (.ref C) = true)
    (nT' : PySem.W.findIn K (.ref C) "top" = some none)
    (nB' : PySem.W.findIn K (.ref C) "bottom" = some none)
    (wa : PySem.W.findIn K (.ref C) "__class__" = some (some (.builtin "object.__class__")))
    (wn : PySem.W.specialIn K (.builtin "object.__class__") "__get__" = some (some (.builtin "getset_descriptor.__get__")))
    (wt : PySem.W.takesIn K (.builtin "object.__class__") = some true)
    (wm : PySem.W.mroIn K C (.type "object") = some true)
    (wne : PySem.W.findIn K (.ref C) "__ne__" = some (some (.builtin "object.__ne__")))
    (gcd : PySem.W.nsIn K mainGlobals "gcd" = some (some (.builtin "math.gcd")))
    (blk : PySem.W.nsIn K mainGlobals "BLOCK" = some (some (.int zB tB)))
    (big : (2 : Int) ^ 1600 ≤ zB)
    (s_int : PySem.W.subIn K (.ref C) (.type "int") = some false)
    (q_int : PySem.W.kitOne K (.type "int") (.ref C) = some false)
    (n_int : PySem.W.notFirst K C (.type "int") = true)
    (s_str : PySem.W.subIn K (.ref C) (.type "str") = some false)
    (q_str : PySem.W.kitOne K (.type "str") (.ref C) = some false)
    (n_str : PySem.W.notFirst K C (.type "str") = true)
    (s_tup : PySem.W.subIn K (.ref C) (.type "tuple") = some false)
    (q_tup : PySem.W.kitOne K (.type "tuple") (.ref C) = some false)
    (n_tup : PySem.W.notFirst K C (.type "tuple") = true)
    (s_lst : PySem.W.subIn K (.ref C) (.type "list") = some false)
    (q_lst : PySem.W.kitOne K (.type "list") (.ref C) = some false)
    (n_lst : PySem.W.notFirst K C (.type "list") = true)
    (s_non : PySem.W.subIn K (.ref C) (.type "NoneType") = some false)
    (q_non : PySem.W.kitOne K (.type "NoneType") (.ref C) = some false)
    (n_non : PySem.W.notFirst K C (.type "NoneType") = true)
    (s_bl : PySem.W.subIn K (.ref C) (.type "bool") = some false)
    (q_bl : PySem.W.kitOne K (.type "bool") (.ref C) = some false)
    (n_bl : PySem.W.notFirst K C (.type "bool") = true)
    (s_dict : PySem.W.subIn K (.ref C) (.type "dict") = some false)
    (q_dict : PySem.W.kitOne K (.type "dict") (.ref C) = some false)
    (n_dict : PySem.W.notFirst K C (.type "dict") = true)
    (z_isinstance : PySem.W.nsIn K mainGlobals "isinstance" = some none)
    (z_int : PySem.W.nsIn K mainGlobals "int" = some none)
    (z_bool : PySem.W.nsIn K mainGlobals "bool" = some none)
    (z_abs : PySem.W.nsIn K mainGlobals "abs" = some none)
    (z_max : PySem.W.nsIn K mainGlobals "max" = some none)
    (z_range : PySem.W.nsIn K mainGlobals "range" = some none)
    (z_str : PySem.W.nsIn K mainGlobals "str" = some none)
    (z_reversed : PySem.W.nsIn K mainGlobals "reversed" = some none)
    (z_repr : PySem.W.nsIn K mainGlobals "repr" = some none)
    (z_enumerate : PySem.W.nsIn K mainGlobals "enumerate" = some none) :
    ∃ fd : FuncData, (∀ (s : Shared) (v : Value), BindsTo s fd ⟨[v], []⟩ [("_law_script", v)]) ∧ ∀ base : Heap, K.In base → base.Ns mainGlobals mg → FnG l.prog w K mg base CX0 9 fa fd ["_law_script"] (spLaw K) := by
  have e := hfa.symm.trans (PySem.W.mg_of X G aLaw)
  cases e
  have T : WTxt K mg C fW := ⟨⟨pg, hd, po, sa⟩, nT', nB', PySem.W.mg_of X G aC, PySem.W.mg_of X G aW, kW, PySem.W.mg_of X G gcd⟩
  have N : WIns K C := ⟨wa, wn, wt, wm⟩
  have B : Blt mg := ⟨PySem.W.mg_none_of X G z_isinstance, PySem.W.mg_none_of X G z_int, PySem.W.mg_none_of X G z_bool⟩
  have Kd : Kinds K C := ⟨⟨s_int, q_int, n_int⟩, ⟨s_str, q_str, n_str⟩, ⟨s_tup, q_tup, n_tup⟩, ⟨s_lst, q_lst, n_lst⟩, ⟨s_non, q_non, n_non⟩, ⟨s_bl, q_bl, n_bl⟩, ⟨s_dict, q_dict, n_dict⟩⟩
  have O : OwnE K C fE := ⟨aE, iE, wne, wm⟩
  have FI : FunI K fI _ := ⟨⟨_, _, _, _, _, _, _, _, _, _, rfl, lI, cI, .inr ⟨by simp, DI, _, [Value.int 1 tkDI], _, rfl, lDI, rfl, .cons ⟨_, rfl⟩ .nil⟩, .inl rfl⟩, kI⟩
  have FE := fun_mk (st := sEq) lE cE kE
  have bEm := FE.binds (ps := ["self", "other"]) fun _ _ _ _ _ _ us hl => match us, hl with | [_, _], _ => rfl
  have FS := fun_mk (st := sStr) lS cS kS
  have bSm := FS.binds (ps := ["self"]) fun _ _ _ _ _ _ us hl => match us, hl with | [_], _ => rfl
  have FR := fun_mk (st := sRepr) lR cR kR
  have bRm := FR.binds (ps := ["self"]) fun _ _ _ _ _ _ us hl => match us, hl with | [_], _ => rfl
  have FSh := fun_mk (st := sShow) lSh cSh kSh
  have qSh : Cl K mg "show_whole" fSh _ _ := ⟨PySem.W.mg_of X G aSh, kSh, FSh.binds (ps := ["number"]) fun _ _ _ _ _ _ us hl => match us, hl with | [_], _ => rfl⟩
  have FW := fun_mk (st := sWhole) lW cW kW
  have qW : Cl K mg "is_whole" fW _ _ := ⟨PySem.W.mg_of X G aW, kW, FW.binds (ps := ["thing"]) fun _ _ _ _ _ _ us hl => match us, hl with | [_], _ => rfl⟩
  have FDk := fun_mk (st := sDeck) lDk cDk kDk
  have qDk : Cl K mg "_law_deck" fDk _ _ := ⟨PySem.W.mg_of X G aDk, kDk, FDk.binds (ps := ["_law_cell"]) fun _ _ _ _ _ _ us hl => match us, hl with | [_], _ => rfl⟩
  have FDr := fun_mk (st := sDraw) lDr cDr kDr
  have qDr : Cl K mg "_law_draw" fDr _ _ := ⟨PySem.W.mg_of X G aDr, kDr, FDr.binds (ps := ["_law_deck_here", "_law_most"]) fun _ _ _ _ _ _ us hl => match us, hl with | [_, _], _ => rfl⟩
  have FLW := fun_mk (st := sLWhole) lLW cLW kLW
  have qLW : Cl K mg "_law_whole" fLW _ _ := ⟨PySem.W.mg_of X G aLW, kLW, FLW.binds (ps := ["_law_thing"]) fun _ _ _ _ _ _ us hl => match us, hl with | [_], _ => rfl⟩
  have FDv := fun_mk (st := sDiv) lDv cDv kDv
  have qDv : Cl K mg "_law_divides" fDv _ _ := ⟨PySem.W.mg_of X G aDv, kDv, FDv.binds (ps := ["_law_one", "_law_other"]) fun _ _ _ _ _ _ us hl => match us, hl with | [_, _], _ => rfl⟩
  have FTw := fun_mk (st := sTwo) lTw cTw kTw
  have qTw : Cl K mg "_law_two" fTw _ _ := ⟨PySem.W.mg_of X G aTw, kTw, FTw.binds (ps := ["_law_deck_here"]) fun _ _ _ _ _ _ us hl => match us, hl with | [_], _ => rfl⟩
  have FLo := fun_mk (st := sLow) lLo cLo kLo
  have qLo : Cl K mg "_law_lowest" fLo _ _ := ⟨PySem.W.mg_of X G aLo, kLo, FLo.binds (ps := ["_law_top", "_law_bottom"]) fun _ _ _ _ _ _ us hl => match us, hl with | [_, _], _ => rfl⟩
  have FIs := fun_mk (st := sIs) lIs cIs kIs
  have qIs : Cl K mg "_law_is" fIs _ _ := ⟨PySem.W.mg_of X G aIs, kIs, FIs.binds (ps := ["_law_found", "_law_top", "_law_bottom"]) fun _ _ _ _ _ _ us hl => match us, hl with | [_, _, _], _ => rfl⟩
  have FWr := fun_mk (st := sWritten) lWr cWr kWr
  have qWr : Cl K mg "_law_written" fWr _ _ := ⟨PySem.W.mg_of X G aWr, kWr, FWr.binds (ps := ["_law_top", "_law_bottom"]) fun _ _ _ _ _ _ us hl => match us, hl with | [_, _], _ => rfl⟩
  have FSn := fun_mk (st := sShown) lSn cSn kSn
  have qSn : Cl K mg "_law_shown" fSn _ _ := ⟨PySem.W.mg_of X G aSn, kSn, FSn.binds (ps := ["_law_top", "_law_bottom"]) fun _ _ _ _ _ _ us hl => match us, hl with | [_, _], _ => rfl⟩
  have FAl := fun_mk (st := sAlone) lAl cAl kAl
  have qAl : Cl K mg "_law_alone_right" fAl _ _ := ⟨PySem.W.mg_of X G aAl, kAl, FAl.binds (ps := ["_law_one", "_law_top", "_law_bottom"]) fun _ _ _ _ _ _ us hl => match us, hl with | [_, _, _], _ => rfl⟩
  have FT2 := fun_mk (st := sTwoR) lT2 cT2 kT2
  have qT2 : Cl K mg "_law_two_right" fT2 _ _ := ⟨PySem.W.mg_of X G aT2, kT2, FT2.binds (ps := ["_law_one", "_law_first", "_law_other", "_law_second"]) fun _ _ _ _ _ _ us hl => match us, hl with | [_, _, _, _], _ => rfl⟩
  have FLaw := fun_mk (st := sLaw) lLaw cLaw kLaw
  refine ⟨PySem.W.fnOf "law" "law" (defArgs sLaw) (defBody sLaw) (defScope sLaw) .none kVLaw dcLaw pmLaw anLaw cdLaw ctLaw, fun s v => .of_eq rfl, fun base _ _ => ?_⟩
  have M : Mk K C fI := ⟨mk, aI, iI, kc⟩
  have GW := ok_whole (P := l.prog) (w := w) (base := base) FW B
  have GLW := ok_lwhole (P := l.prog) (w := w) (base := base) FLW B
  have GI := ok_init FI T GW qW.b
  obtain ⟨ds, vd, b1⟩ := bindsI1 FI
  have GSh := ok_show (P := l.prog) (w := w) (mg := mg) (base := base) FSh (PySem.W.mg_none_of X G z_str) (PySem.W.mg_none_of X G z_reversed) (PySem.W.mg_of X G blk) big
  have GS := ok_str FS T qSh GSh
  have GE := ok_eq (P := l.prog) (w := w) (base := base) FE T B N
  have GR := ok_repr FR T qSh GSh
  have GDk := ok_deck (P := l.prog) (w := w) (mg := mg) (base := base) FDk B
  have GDr := ok_draw (P := l.prog) (w := w) (mg := mg) (base := base) FDr
  have GDv := ok_div (P := l.prog) (w := w) (mg := mg) (base := base) FDv (PySem.W.mg_none_of X G z_abs)
  have GTw := ok_two FTw (PySem.W.mg_none_of X G z_max) (PySem.W.mg_none_of X G z_range) qDr GDr
  have GLo := ok_low FLo qDv GDv
  have GIs := ok_is FIs T B N qLW GLW qLo GLo
  have GWr := ok_written FWr (PySem.W.mg_none_of X G z_str) qLo GLo
  have GSn := ok_shown FSn (PySem.W.mg_none_of X G z_str) (PySem.W.mg_none_of X G z_int) qLo GLo
  have GAl := ok_alone FAl T N Kd (PySem.W.mg_none_of X G z_repr) (PySem.W.mg_none_of X G z_str) (PySem.W.mg_none_of X G z_range) qWr GWr qSn GSn qIs GIs GR aR iR bRm GS aS iS bSm O GE bEm
  have GT2 := ok_twoR FT2 T N B Kd (PySem.W.mg_none_of X G z_repr) qLo GLo O GE bEm
  exact ok_law FLaw T (PySem.W.mg_none_of X G z_range) (PySem.W.mg_none_of X G z_enumerate) M GI (bindsI FI) qDk GDk qDr GDr qTw GTw qAl GAl qT2 GT2
theorem walk {l : PySem.W.OpenLaw} {q : Program} {loose : List Str} {XP : (Str → Option Value) → Heap → Prop} {YP : World → Heap → Prop} {d : DefRec} {K : Params → PySem.W.Frag} (hn : l.most = some 63) (hdf : d.params.defaults = [])
    (hY : ∀ (w : World) (h : Heap), YP w h → (K w.params).In h)
    (F : ∀ (w : World) (mg : Str → Option Value) (fa : Addr) (h : Heap), (K w.params).In h → h.Ns mainGlobals mg → mg d.name = some (.ref fa) →
      ∃ fd : FuncData, (∀ (s : Shared) (u : Value), BindsTo s fd ⟨[u], []⟩ [("_law_script", u)]) ∧ ∀ base : Heap, (K w.params).In base → base.Ns mainGlobals mg → FnG l.prog w (K w.params) mg base CX0 9 fa fd ["_law_script"] (spLaw (K w.params))) :
    PySem.W.WalkO q loose XP YP l.row.toRowW d [] (fun f vs => PySem.call f vs) :=
  walk_ofG (n := 63) (k := 9) (x := "_law_script") (CX := fun _ => CX0) (sp := fun w => spLaw (K w.params)) hn (by decide) hdf ⟨rfl, by decide, by decide⟩ hY F (fun _ _ a ns hl _ hS => ⟨a, ns, rfl, hS, hl, fun _ => rfl⟩) fun _ _ _ _ _ z => z
end K
open PySem PySem.W PyProof.Rows
set_option maxRecDepth 100000 in
set_option maxHeartbeats 0 in
theorem PySem.Challenge.cw_casknotes_k04_weights_by_their_words_holds : PySem.Challenge.rw_casknotes_k04_weights_by_their_words.Holds := by
  w_on; o_law; k_head; (case hw => w_witness2)
  k_fill
  refine K.walk (l := PySem.Challenge.rw_casknotes_k04_weights_by_their_words) rfl rfl (fun w h Y => PySem.W.kIn_of Y) ?F
  case F =>
    intro w mg fa h KX G hmg
    refine' K.all_mk KX G hmg ?aC ?aI ?iI ?lI ?cI ?kI ?lDI ?aE ?iE ?lE ?cE ?kE ?aS ?iS ?lS ?cS ?kS ?aR ?iR ?lR ?cR ?kR ?aSh ?lSh ?cSh ?kSh ?aW ?lW ?cW ?kW ?aDk ?lDk ?cDk ?kDk ?aDr ?lDr ?cDr ?kDr ?aLW ?lLW ?cLW ?kLW ?aDv ?lDv ?cDv ?kDv ?aTw ?lTw ?cTw ?kTw ?aLo ?lLo ?cLo ?kLo ?aIs ?lIs ?cIs ?kIs ?aWr ?lWr ?cWr ?kWr ?aSn ?lSn ?cSn ?kSn ?aAl ?lAl ?cAl ?kAl ?aT2 ?lT2 ?cT2 ?kT2 ?aLaw ?lLaw ?cLaw ?kLaw ?pg ?hd ?po ?sa ?mk ?kc ?nT_ ?nB_ ?wa ?wn ?wt ?wm ?wne ?gcd ?blk ?big ?s_int ?q_int ?n_int ?s_str ?q_str ?n_str ?s_tup ?q_tup ?n_tup ?s_lst ?q_lst ?n_lst ?s_non ?q_non ?n_non ?s_bl ?q_bl ?n_bl ?s_dict ?q_dict ?n_dict ?z_isinstance ?z_int ?z_bool ?z_abs ?z_max ?z_range ?z_str ?z_reversed ?z_repr ?z_enumerate
    (case aC => k_is)
    (case aI => k_is)
    (case iI => k_is)
    (case lI => k_is)
    (case cI => k_is)
    (case kI => k_is)
    (case lDI => k_is)
    (case aE => k_is)
    (case iE => k_is)
    (case lE => k_is)
    (case cE => k_is)
    (case kE => k_is)
    (case aS => k_is)
    (case iS => k_is)
    (case lS => k_is)
    (case cS => k_is)
    (case kS => k_is)
    (case aR => k_is)
    (case iR => k_is)
    (case lR => k_is)
    (case cR => k_is)
    (case kR => k_is)
    (case aSh => k_is)
    (case lSh => k_is)
    (case cSh => k_is)
    (case kSh => k_is)
    (case aW => k_is)
    (case lW => k_is)
    (case cW => k_is)
    (case kW => k_is)
    (case aDk => k_is)
    (case lDk => k_is)
    (case cDk => k_is)
    (case kDk => k_is)
    (case aDr => k_is)
    (case lDr => k_is)
    (case cDr => k_is)
    (case kDr => k_is)
    (case aLW => k_is)
    (case lLW => k_is)
    (case cLW => k_is)
    (case kLW => k_is)
    (case aDv => k_is)
    (case lDv => k_is)
    (case cDv => k_is)
    (case kDv => k_is)
    (case aTw => k_is)
    (case lTw => k_is)
    (case cTw => k_is)
    (case kTw => k_is)
    (case aLo => k_is)
    (case lLo => k_is)
    (case cLo => k_is)
    (case kLo => k_is)
    (case aIs => k_is)
    (case lIs => k_is)
    (case cIs => k_is)
    (case kIs => k_is)
    (case aWr => k_is)
    (case lWr => k_is)
    (case cWr => k_is)
    (case kWr => k_is)
    (case aSn => k_is)
    (case lSn => k_is)
    (case cSn => k_is)
    (case kSn => k_is)
    (case aAl => k_is)
    (case lAl => k_is)
    (case cAl => k_is)
    (case kAl => k_is)
    (case aT2 => k_is)
    (case lT2 => k_is)
    (case cT2 => k_is)
    (case kT2 => k_is)
    (case aLaw => k_is)
    (case lLaw => k_is)
    (case cLaw => k_is)
    (case kLaw => k_is)
    (case pg => k_is)
    (case hd => k_is)
    (case po => k_is)
    (case sa => k_is)
    (case mk => k_is)
    (case kc => k_is)
    (case nT_ => k_is)
    (case nB_ => k_is)
    (case wa => k_is)
    (case wn => k_is)
    (case wt => k_is)
    (case wm => k_is)
    (case wne => k_is)
    (case gcd => k_is)
    (case blk => k_is)
    (case big => decide +kernel)
    (case s_int => k_is)
    (case q_int => kit_is)
    (case n_int => exact K.nf_int)
    (case s_str => k_is)
    (case q_str => kit_is)
    (case n_str => exact K.nf_str)
    (case s_tup => k_is)
    (case q_tup => kit_is)
    (case n_tup => exact K.nf_tup)
    (case s_lst => k_is)
    (case q_lst => kit_is)
    (case n_lst => exact K.nf_lst)
    (case s_non => k_is)
    (case q_non => kit_is)
    (case n_non => exact K.nf_non)
    (case s_bl => k_is)
    (case q_bl => kit_is)
    (case n_bl => exact K.nf_bl)
    (case s_dict => k_is)
    (case q_dict => kit_is)
    (case n_dict => exact K.nf_dict)
    (case z_isinstance => k_is)
    (case z_int => k_is)
    (case z_bool => k_is)
    (case z_abs => k_is)
    (case z_max => k_is)
    (case z_range => k_is)
    (case z_str => k_is)
    (case z_reversed => k_is)
    (case z_repr => k_is)
    (case z_enumerate => k_is)
