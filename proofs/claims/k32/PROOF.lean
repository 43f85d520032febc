import PyProof.Rows.All
import Wide.All
import OpenK.AllK
import Wide.FinOn
import HandS.ForMost
import HandS.IsInst
import HandS.Wide
import HandS.Style
import HandS.Walk
import HandS.Zip
import HandS.Flow
import HandS.ForExc
import HandS.ExcInit
import HandS.Property
import HandS.TupSets
import HandS.Ends
import HandS.OwnEq
import PySem.Challenge.RW_orderlycore_k32_whole_devices_by_their_d
set_option Elab.async false
set_option linter.all false
set_option maxRecDepth 100000
set_option maxHeartbeats 4000000
namespace Hx
open PySem PySem.Spec PyProof.Rows L2
/-! ### own rules -/
section
variable {X : Cx} {CX : CXT} {k : Nat} {f : Addr} {fd : FuncData} {ps ks : List Str} {sp : Sp} {E : XK} {x : Str} {p pos : Pos} {kws : List Keyword} {tk : TA} {g : List Value → List Value → List Value} {gV : List V → List V → List V}
theorem pe_callKA (F : FnOk X.prog X.w X.K X.mg X.base CX k f fd ps sp) (hr : Room k X.A) (hg : Gl X x) (hm : X.mg x = some (.ref f)) (hk : PySem.W.keepIn X.K (.ref f) = true) (hb : KBinds X.K fd ps ks g gV) (hx : Passes CX X E)
    (hkw : PK X kws tk) (hall : (backToKw pos (keywordEach kws X.env)).all (·.1.isSome) = true := by rfl) (hks : (backToKw pos (keywordEach kws X.env)).filterMap (·.1) = ks := by rfl)
    (hdb : (x == ("__debug__" : Str)) = false := by decide)
    (hpl : ((backTo pos (starEach [] X.env)).any (·.1) || (backToKw pos (keywordEach kws X.env)).any (·.1.isNone)) = false := by rfl) :
    PE X (.Call (.Name x p) [] kws pos) (tCallK sp gV E tNil tk) := by
  refine ⟨fun pins s σ H Q I h => ?_⟩
  refine wpAny_Call_Name_kw (ld_glob I hg hm ?_ hdb)
  refine PySem.W.callWith_KW0 (h₀ := X.base) I.ok.mod.kin hk hall ?_ hpl
  refine thn (hkw.run pos pins s σ H _ I h) fun ws s2 ⟨zs, H2, I2, rz, q2⟩ => ⟨I2.kIn, ?_⟩
  rw [hks]
  exact run_fnk F hr hb hx I2 .nil rz q2
/-- all by keywords, in the parameters' own order -/
def kwG {α : Type} (us ws : List α) : List α := match us with | [] => ws | _ => []
theorem kw_binds {K : PySem.W.Frag} {x qual : Str} {st : Stmt} {f : Addr} {fd : FuncData} {ps : List Str} (F : Fun K x qual st f fd) (h0 : 0 < ps.length)
    (h : ∀ (kV doc pm : Value) (an : Option Addr) (cdv ct : Value) (us : List Value), us.length = ps.length → bindArgs (PySem.W.fnOf x qual (defArgs st) (defBody st) (defScope st) .none kV doc pm an cdv ct) ⟨[], ps.zip us⟩ = pure (ps.zip us)) : KBinds K fd ps ps kwG kwG := by
  obtain ⟨oc, od, kV, doc, pm, an, cdv, ct, osl, rfl, lk, hcd⟩ := F.ex
  refine ⟨fun s us ws _ hl => ?_, fun {vs us zs ws} r1 r2 => ?_⟩
  · cases us with
    | nil => exact .of_eq (h kV doc pm an cdv ct ws hl)
    | cons a t => exact absurd hl (by simp [kwG]; omega)
  · cases r1 with
    | nil => exact r2
    | cons a t => exact .nil
theorem pg_pair {i j : Nat} {x y : Str} {p1 p2 : Pos} {kk : Nat} (hc : X.calm = true) (hN : X.N.Nodup) (hi : X.N[i]? = some x) (hj : X.N[j]? = some y) (hx : Loc X.env.scope x) (hy : Loc X.env.scope y)
    (hf : X.fn x = true ∨ X.env.scope.names.lookup x = some .local := by first | exact .inl rfl | exact .inr rfl | assumption) (hf2 : X.fn y = true ∨ X.env.scope.names.lookup y = some .local := by first | exact .inl rfl | exact .inr rfl | assumption)
    (hn : (assignEach [Expr.Name x p1, .Name y p2] X.env).length = 2 := by rfl) (hst : (assignEach [Expr.Name x p1, .Name y p2] X.env).findIdx? (·.1) = none := by rfl)
    (hs : (assignEach [Expr.Name x p1, .Name y p2] X.env).map (·.2) = assign (.Name x p1) X.env :: (assignEach [Expr.Name y p2] X.env).map (·.2) := by rfl)
    (hs2 : (assignEach [Expr.Name y p2] X.env).map (·.2) = assign (.Name y p2) X.env :: (assignEach [] X.env).map (·.2) := by rfl) :
    PG X (.Tuple [.Name x p1, .Name y p2] kk pos) (gTup X.K 2 (gCons (gName i) (gCons (gName j) gNil))) :=
  pg_tup hc (pgs_cons (pg_name hN hi hx hf) (pgs_cons (pg_name hN hj hy hf2) pgs_nil hs2) hs) hn hst
theorem pe_gint {i : Int} (hg : Gl X x) (hm : ∃ t, X.mg x = some (.int i t)) (hd : (x == ("__debug__" : Str)) = false := by decide) : PE X (.Name x pos) (tC (.int i)) := by
  obtain ⟨t, hm⟩ := hm
  exact pe_glob hg hm ⟨_, rfl⟩ hd
end
theorem call_int1i {X : Cx} : CallR X (.type "int") (fun xs H Q => ∃ i, xs = [.int i] ∧ Q (.int i) H) := fun pins s σ H xs us Q I r h => call_int1 pins s σ H xs us Q I r (.inl h)
theorem call_int1b {X : Cx} : CallR X (.type "int") (fun xs H Q => ∃ k, xs = [.bl k] ∧ Q (.int (if k then 1 else 0)) H) := fun pins s σ H xs us Q I r h => call_int1 pins s σ H xs us Q I r (.inr h)
theorem call_len_list {X : Cx} : CallR X (.builtin "len") (fun xs H Q => ∃ p ys, xs = [.ref p] ∧ SqL X.K H p ys ∧ Q (.int ys.length) H) := fun pins s σ H xs us Q I r ⟨p, ys, e, h, q⟩ => call_len_seq pins s σ H xs us Q I r ⟨p, ys, e, .inl h, q⟩
/-- a goal at which the walker of readings stops -/
structure Stop (p : Prop) : Prop where
  h : p
theorem stop_eq {p : Prop} : Stop p = p := propext ⟨fun q => q.h, fun q => ⟨q⟩⟩
def tForS (wi : TI) (g : TG) (tb : TS) : TS := fun D σ H => wi σ H fun J H1 => Stop (∃ W : Nat → Nat → L2.St → Hp → Prop, (∃ m, W 0 m σ H1) ∧ ∀ i m σ H, W i m σ H →
  (J.stop i H ∧ D.nx σ H) ∨ (J.go i H ∧ ∃ N : L2.St → Hp → Prop, (∀ σ' H', N σ' H' → ∃ m', m' < m ∧ W (i + 1) m' σ' H') ∧ ∀ x H', J.yld i H x H' → g x σ H' fun σ2 H2 => tb { D with nx := N, ct := N, bk := D.nx } σ2 H2))
theorem tForS_eq (wi : TI) (g : TG) (tb : TS) : tForS wi g tb = tFor wi g tb := by
  funext D σ H
  unfold tForS tFor
  simp only [stop_eq]
theorem ps_forS {X : Cx} {tg iter : Expr} {body : List Stmt} {wi : TI} {g : TG} {tb : TS} {pos : Pos} (hp : PassesOwn (model X.prog X.w) X.A X.env X.xe) (hc : X.calm = true) (hi : PI X tg iter wi) (hg : PG X tg g) (hb : PSs X body tb)
    (hs : ∀ x, foldedSetIterable iter X.env x = pure x := by intro _; rfl) : PS X (.For tg iter body [] pos) (tForS wi g tb) := by
  rw [tForS_eq]
  exact ps_for hp hc hi hg hb hs
/-! ### heaps -/
theorem same_upd {H : Hp} {p : Addr} {o : HO} (h : H p = none) : Same H (upd H p o) := fun b u e => by rw [upd_ne (ne_of_none e h)]; exact e
theorem Same.upd {H H1 : Hp} {p : Addr} {o : HO} (s : Same H H1) (h : H1 p = none) : Same H (L2.upd H1 p o) := L2.Same.trans s (same_upd h)
theorem Same.free' {H H1 : Hp} (s : Same H H1) {p : Addr} (h : H1 p = none) : H p = none := L2.Same.free s h
/-- all but a is as it was -/
def But (a : Addr) (H H' : Hp) : Prop := ∀ b o, b ≠ a → H b = some o → H' b = some o
theorem But.refl {a : Addr} (H : Hp) : But a H H := fun _ _ _ h => h
theorem But.trans {a : Addr} {H H1 H2 : Hp} (x : But a H H1) (y : But a H1 H2) : But a H H2 := fun b o n h => y b o n (x b o n h)
theorem But.same {a : Addr} {H H1 : Hp} (x : Same H H1) : But a H H1 := fun b o _ h => x b o h
theorem But.set {a : Addr} {H : Hp} {o : HO} : But a H (upd H a o) := fun b u n h => by rw [upd_ne n]; exact h
theorem But.new {a : Addr} {H H1 : Hp} {p : Addr} {o : HO} (x : But a H H1) (h : H1 p = none) : But a H (upd H1 p o) := x.trans (But.same (same_upd h))
theorem size_le {n : Nat} (h : n ≤ 10000) : n ≤ sizeLine := by rw [sizeLine_eq]; omega
theorem size_lt {n : Nat} (h : n ≤ 10000) : n < sizeLine := by rw [sizeLine_eq]; omega
theorem iteD {c A B : Prop} [Decidable c] (h1 : c → A) (h2 : ¬ c → B) : if decide c = true then A else B := by
  by_cases h : c
  · rw [decide_eq_true h]; exact iteT (h1 h)
  · rw [decide_eq_false h]; exact iteF (h2 h)
theorem iteN {c A B : Prop} [Decidable c] (h1 : ¬ c → A) (h2 : c → B) : if (!decide c) = true then A else B := by
  by_cases h : c
  · rw [decide_eq_true h]; exact iteF (h2 h)
  · rw [decide_eq_false h]; exact iteT (h1 h)
theorem qbl {Q : VK} {b c : Bool} {H : Hp} (k : Q (.bl b) H) (e : c = b) : Q (.bl c) H := e ▸ k
theorem qint {Q : VK} {i j : Int} {H : Hp} (k : Q (.int i) H) (e : j = i) : Q (.int j) H := e ▸ k
theorem same_set {H H1 : Hp} {p : Addr} {o : HO} (s : Same H H1) (n : H p = none) : Same H (upd H1 p o) := fun b u e => by rw [upd_ne (ne_of_none e n)]; exact s b u e
theorem old_upd {H : Hp} {p a : Addr} {o u : HO} (n : H p = none) (h : H a = some u) : upd H p o a = some u := same_upd n _ _ h
theorem SqL.new {K : PySem.W.Frag} {H : Hp} {p a : Addr} {o : HO} {xs : List V} (n : H p = none) (h : SqL K H a xs) : SqL K (upd H p o) a xs := L2.Same.seq (same_upd n) h
theorem tyl_new {K : PySem.W.Frag} {H : Hp} {p a : Addr} {o : HO} {xs : List V} (h : H a = some (.lst xs)) (n : H p = none) : tyV K "list" (.ref a) (upd H p o) := Or.inl ⟨rfl, xs, SqL.of (old_upd n h)⟩
theorem tyl_of {K : PySem.W.Frag} {H : Hp} {a : Addr} {xs : List V} (h : H a = some (.lst xs)) : tyV K "list" (.ref a) H := Or.inl ⟨rfl, xs, SqL.of h⟩
theorem same_at {H H' : Hp} {a : Addr} {u : HO} (s : Same H H') (h : H a = some u) : H' a = some u := s _ _ h
theorem same_trans' {H H1 H2 : Hp} (b : Same H1 H2) (a : Same H H1) : Same H H2 := L2.Same.trans a b
/-! ### comprehensions that keep what stood -/
theorem lc_mapS {K : PySem.W.Frag} {a : Addr} {xs : List V} {g : TG} {te : TE} {vs : List Nat} {σ : L2.St} {H1 : Hp} {D : Addr} {Qd : Hp → Prop} (ys : List V) (ha : SqL K H1 a xs) (hD : H1 D = none) (hl : xs.length = ys.length) (hz : xs.length ≤ 10000)
    (hs : ∀ (i : Nat) (x y : V) (H' : Hp) (Q : VK), xs[i]? = some x → ys[i]? = some y → Same H1 H' → (∀ H'', Same H' H'' → Q y H'') → g x (wipe σ vs) H' fun σ2 H2 => wipe σ2 vs = wipe σ vs ∧ te σ2 H2 Q)
    (hd : ∀ H', Same H1 H' → H' D = some (.lst ys) → Qd H') :
    ∃ W : Nat → Nat → Hp → Prop, (∃ m, W 0 m (upd H1 D (.lst []))) ∧ ∀ i m H, W i m H →
      ((Itl K a).stop i H ∧ Qd H) ∨ ((Itl K a).go i H ∧ ∃ Nx : Hp → Prop, (∀ H', Nx H' → ∃ m', m' < m ∧ W (i + 1) m' H') ∧ ∀ x H', (Itl K a).yld i H x H' → g x (wipe σ vs) H' fun σ2 H2 => wipe σ2 vs = wipe σ vs ∧ tYes σ2 H2 fun b H3 =>
        if b = true then te σ2 H3 fun y H4 => ∃ acc, H4 D = some (.lst acc) ∧ acc.length < sizeLine ∧ Nx (upd H4 D (.lst (acc ++ [y]))) else Nx H3) := by
  refine lc_list (xs := xs) (fun i H => Same H1 H ∧ H D = some (.lst (ys.take i))) ⟨same_upd hD, upd_same⟩ (fun i H _ h => L2.Same.seq h.1 ha) (fun i x H hx h => ?_) (fun H h => hd H h.1 (by rw [h.2, List.take_of_length_le (by omega)]))
  have hi : i < ys.length := by have := (List.getElem?_eq_some_iff.mp hx).1; omega
  refine hs i x ys[i] H _ hx (List.getElem?_eq_getElem hi) h.1 (fun H'' s => ?_)
  refine ⟨ys.take i, s _ _ h.2, size_lt (by simp; omega), same_set (L2.Same.trans h.1 s) hD, ?_⟩
  rw [upd_same, List.take_add_one, List.getElem?_eq_getElem hi]; rfl
theorem lc_mapZ {K : PySem.W.Frag} {a b : Addr} {xs zs : List V} {g : TG} {te : TE} {vs : List Nat} {σ : L2.St} {H1 : Hp} {D : Addr} {Qd : Hp → Prop} (ys : List V) (ha : SqL K H1 a xs) (hb : SqL K H1 b zs) (hD : H1 D = none) (hl : xs.length = ys.length) (hl2 : xs.length = zs.length) (hz : xs.length ≤ 10000)
    (hs : ∀ (i : Nat) (x z y : V) (T : Addr) (H' : Hp) (Q : VK), xs[i]? = some x → zs[i]? = some z → ys[i]? = some y → Same H1 H' → H' T = none → (∀ H'', Same (upd H' T (.tup [x, z])) H'' → Q y H'') → g (.ref T) (wipe σ vs) (upd H' T (.tup [x, z])) fun σ2 H2 => wipe σ2 vs = wipe σ vs ∧ te σ2 H2 Q)
    (hd : ∀ H', Same H1 H' → H' D = some (.lst ys) → Qd H') :
    ∃ W : Nat → Nat → Hp → Prop, (∃ m, W 0 m (upd H1 D (.lst []))) ∧ ∀ i m H, W i m H →
      ((Itz K a b).stop i H ∧ Qd H) ∨ ((Itz K a b).go i H ∧ ∃ Nx : Hp → Prop, (∀ H', Nx H' → ∃ m', m' < m ∧ W (i + 1) m' H') ∧ ∀ x H', (Itz K a b).yld i H x H' → g x (wipe σ vs) H' fun σ2 H2 => wipe σ2 vs = wipe σ vs ∧ tYes σ2 H2 fun b H3 =>
        if b = true then te σ2 H3 fun y H4 => ∃ acc, H4 D = some (.lst acc) ∧ acc.length < sizeLine ∧ Nx (upd H4 D (.lst (acc ++ [y]))) else Nx H3) := by
  refine lc_it (walk_zip (xs := xs) (ys := zs) (n := xs.length) (by omega)) (fun i H => Same H1 H ∧ H D = some (.lst (ys.take i))) ⟨same_upd hD, upd_same⟩ (fun i H _ h => ⟨L2.Same.seq h.1 ha, L2.Same.seq h.1 hb⟩) (fun i x H H' hi h y => ?_) (fun H h => hd H h.1 (by rw [h.2, List.take_of_length_le (by omega)]))
  obtain ⟨T, x', z', rfl, hT, rfl, hx, hz'⟩ := y
  have hi' : i < ys.length := by omega
  refine hs i x' z' ys[i] T H _ hx hz' (List.getElem?_eq_getElem hi') h.1 hT (fun H'' s => ?_)
  refine ⟨ys.take i, s _ _ (old_upd hT h.2), size_lt (by simp; omega), same_set (L2.Same.trans (Same.upd h.1 hT) s) hD, ?_⟩
  rw [upd_same, List.take_add_one, List.getElem?_eq_getElem hi']; rfl
/-! ### two lists of the same ints -/
theorem dp_ints {K : PySem.W.Frag} {H : Hp} : ∀ ns : List Int, DpAll K H (ns.map V.int) (ns.map PyData.int)
  | [] => .nil
  | n :: r => .cons (.int n) (dp_ints r)
theorem sh_ints (ns : List Int) : SeqAt.shaped (.list (ns.map PyData.int)) = true := PySem.W.shaped_ints ns
theorem eqv_ints (ns : List Int) : PyData.eqv (.list (ns.map PyData.int)) (.list (ns.map PyData.int)) = true := SeqAt.eqv_refl _ (SeqAt.canLay_of_shaped (sh_ints ns))
theorem op_eqLI {X : Cx} (hu : X.A.units + 64 < cLine) : OpR X (compareOp .Eq) (fun x y H Q => ∃ (p q : Addr) (ns : List Int), x = .ref p ∧ y = .ref q ∧ SqL X.K H p (ns.map V.int) ∧ SqL X.K H q (ns.map V.int) ∧ Q (.bl true) H) := by
  intro pins s σ H x y v u Q I rx ry ⟨p, q, ns, e1, e2, h1, h2, k⟩
  refine op_eqD hu pins s σ H x y v u Q I rx ry ⟨.list (ns.map PyData.int), .list (ns.map PyData.int), ?_, ?_, ?_, ?_, ?_⟩
  · rw [e1]; exact .lst h1 (dp_ints ns)
  · rw [e2]; exact .lst h2 (dp_ints ns)
  · exact sh_ints ns
  · exact sh_ints ns
  · rw [eqv_ints]; exact k
theorem op_neLI {X : Cx} (hu : X.A.units + 64 < cLine) : OpR X (compareOp .NotEq) (fun x y H Q => ∃ (p q : Addr) (ns : List Int), x = .ref p ∧ y = .ref q ∧ SqL X.K H p (ns.map V.int) ∧ SqL X.K H q (ns.map V.int) ∧ Q (.bl false) H) := by
  intro pins s σ H x y v u Q I rx ry ⟨p, q, ns, e1, e2, h1, h2, k⟩
  refine op_neD hu pins s σ H x y v u Q I rx ry ⟨.list (ns.map PyData.int), .list (ns.map PyData.int), ?_, ?_, ?_, ?_, ?_⟩
  · rw [e1]; exact .lst h1 (dp_ints ns)
  · rw [e2]; exact .lst h2 (dp_ints ns)
  · exact sh_ints ns
  · exact sh_ints ns
  · rw [eqv_ints]; exact k
/-! ### the pot -/
structure Pot (H : Hp) (a : Addr) : Prop where
  ex : ∃ x y : Int, H a = some (.lst [.int x, .int y]) ∧ 0 ≤ x ∧ 0 ≤ y ∧ y < 4294967296
theorem Pot.same {H H' : Hp} {a : Addr} (s : Same H H') (h : Pot H a) : Pot H' a := by
  obtain ⟨x, y, e, r⟩ := h
  exact ⟨x, y, s _ _ e, r⟩
theorem Pot.new {H : Hp} {a p : Addr} {o : HO} (h : Pot H a) (n : H p = none) : Pot (upd H p o) a := h.same (same_upd n)
theorem Pot.ne {H : Hp} {a p : Addr} (h : Pot H a) (n : H p = none) : p ≠ a := by
  obtain ⟨x, y, e, r⟩ := h
  exact fun z => by rw [z, e] at n; cases n
theorem mulw {i j : Int} {a b : Nat} (ha : i.natAbs < 2 ^ a) (hb : j.natAbs < 2 ^ b) (h0 : 0 < a := by decide) (h1 : 0 < b := by decide) (h : a + b ≤ 1000000 := by decide) : CMulW i j := wide_mul ha hb h0 h1 h
theorem mulw64 {i j : Int} (ha : i.natAbs < 18446744073709551616) (hb : j.natAbs < 18446744073709551616) : CMulW i j := wide_mul (a := 64) (b := 64) ha hb (by decide) (by decide) (by decide)
theorem pick_at {xs : List V} {d : Int} (h0 : 0 ≤ d) (h1 : d < xs.length) : ∃ v, atI xs d = some v ∧ v ∈ xs := by
  have hd : d.toNat < xs.length := by omega
  exact ⟨xs[d.toNat], at_of (j := d.toNat) (by omega) (List.getElem?_eq_getElem hd), List.getElem_mem hd⟩
theorem take_fold {α β : Type} {f : β → α → β} {z : β} {l : List α} {i : Nat} {x : α} (h : l[i]? = some x) : (l.take (i + 1)).foldl f z = f ((l.take i).foldl f z) x := by
  rw [List.take_add_one, h, Option.toList_some, List.foldl_append]; rfl
theorem int_get {ns : List Int} {i : Nat} {x : V} (h : (ns.map V.int)[i]? = some x) : ∃ z, x = .int z ∧ ns[i]? = some z := by
  rw [List.getElem?_map] at h
  obtain ⟨z, hz, e⟩ := Option.map_eq_some_iff.mp h
  exact ⟨z, e.symm, hz⟩
/-- called with the pot and how many: a number below that, and the pot is still one -/
def spDraw : Sp := fun vs H Q _ => ∃ (a : Addr) (n : Int), vs = [.ref a, .int n] ∧ Pot H a ∧ 0 < n ∧ n < 1073741824 ∧
  ∀ (d : Int) (H' : Hp), 0 ≤ d → d < n → Pot H' a → But a H H' → Q (.int d) H'
end Hx

set_option Elab.async false
set_option linter.all false
set_option maxRecDepth 100000
set_option maxHeartbeats 4000000
namespace Hx
open PySem PySem.Spec PyProof.Rows L2
/-! ### own rules for objects and errors -/
def kwM {α : Type} (us ws : List α) : List α := match us with | [x] => x :: ws | _ => []
theorem kw_bindsM {K : PySem.W.Frag} {x qual : Str} {st : Stmt} {f : Addr} {fd : FuncData} {ps : List Str} (F : Fun K x qual st f fd) (h0 : 0 < ps.length)
    (h : ∀ (kV doc pm : Value) (an : Option Addr) (cdv ct : Value) (u : Value) (us : List Value), us.length = ps.tail.length → bindArgs (PySem.W.fnOf x qual (defArgs st) (defBody st) (defScope st) .none kV doc pm an cdv ct) ⟨[u], ps.tail.zip us⟩ = pure (ps.zip (u :: us))) : KBinds K fd ps ps.tail kwM kwM := by
  obtain ⟨oc, od, kV, doc, pm, an, cdv, ct, osl, rfl, lk, hcd⟩ := F.ex
  refine ⟨fun s us ws _ hl => ?_, fun {vs us zs ws} r1 r2 => ?_⟩
  · match us, hl with
    | [], hl => exact absurd hl (by simp [kwM]; omega)
    | [u], hl => exact .of_eq (h kV doc pm an cdv ct u ws (by simp [kwM] at hl ⊢; omega))
    | _ :: _ :: _, hl => exact absurd hl (by simp [kwM]; omega)
  · cases r1 with
    | nil => exact .nil
    | cons a t =>
      cases t with
      | nil => exact .cons a r2
      | cons b t => exact .nil
section
variable {X : Cx} {CX : CXT} {k : Nat} {f C : Addr} {fd : FuncData} {ps ks : List Str} {sp : Sp} {E : L2.St → XK} {E1 : XK} {x m : Str} {p pos apos : Pos} {e o : Expr} {es : List Expr} {ta : TE} {t tk : TA} {kws : List Keyword} {g : List Value → List Value → List Value} {gV : List V → List V → List V}
def tMethA (C : Addr) (m : Str) (sp : Sp) (E : L2.St → XK) (ta : TE) (t : TA) : TE := fun σ H Q => ta σ H fun x H1 => ∃ a dx fs, x = .ref a ∧ H1 a = some (.ins C dx fs) ∧ fs.lookup m = none ∧ t σ H1 fun vs H2 => sp (x :: vs) H2 Q (E σ)
/-- o.m(e, ..) that may raise, within a try -/
theorem pe_methA {E : L2.St → XK} {pl : Sem Bool} (he : PE X o ta) (c : Cls X.K C) (hm : Meth X.K C m f) (F : FnOk X.prog X.w X.K X.mg X.base CX k f fd ps sp) (hr : Room k X.A) (hb : Binds X.K fd ps []) (hx : ∀ σ, PassesAt CX X σ (E σ)) (ha : PA X (e :: es) t)
    (hst : starEach (e :: es) X.env = (false, eval e X.env) :: starEach es X.env := by rfl) (hpl : (backTo pos (starEach es X.env)).any (·.1) = false := by rfl)
    (ht : eval (.Call (.Attribute o m apos) (e :: es) [] pos) X.env = (do
      let ov ← eval o X.env
      standAt apos.atName
      let (f, first) ← holding [ov] (getMethod ov m pl)
      callWith pos f first (backTo pos (starEach (e :: es) X.env)) (backToKw pos (keywordEach [] X.env))) := by rfl) :
    PE X (.Call (.Attribute o m apos) (e :: es) [] pos) (tMethA C m sp E ta t) := by
  refine ⟨fun pins s σ H Q I h => ?_⟩
  refine PySem.W.methodCall_KW (pl := pl) (thn (he.run pins s σ H _ I h) fun u s1 ⟨x, H1, I1, rx, a, dx, fs, ex, ea, l, q⟩ => ?_) ht
  subst ex
  obtain rfl : u = Value.ref a := rx
  refine getmeth_ok I1 ea c hm l ?_
  refine PySem.W.callWith_K (first := [.ref a]) (h₀ := X.base) I.ok.mod.kin hm.kp (thn (ha.run pos pins s1 σ H1 _ I1 q) fun us s2 ⟨vs, H2, I2, r, q2⟩ => ⟨I2.kIn, ?_⟩) hst hpl
  exact run_fnS (us := .ref a :: us) (vs := .ref a :: vs) F hr hb (hx σ) I2 (.cons rfl r) q2
def tMethK (C : Addr) (m : Str) (sp : Sp) (gV : List V → List V → List V) (E : XK) (ta : TE) (tk : TA) : TE := fun σ H Q => ta σ H fun x H1 => ∃ a dx fs, x = .ref a ∧ H1 a = some (.ins C dx fs) ∧ fs.lookup m = none ∧ tk σ H1 fun zs H2 => sp (gV [x] zs) H2 Q E
/-- o.m(k=e, ..) -/
theorem pe_methKA {pl : Sem Bool} (he : PE X o ta) (c : Cls X.K C) (hm : Meth X.K C m f) (F : FnOk X.prog X.w X.K X.mg X.base CX k f fd ps sp) (hr : Room k X.A) (hb : KBinds X.K fd ps ks g gV) (hx : Passes CX X E1)
    (hkw : PK X kws tk) (hall : (backToKw pos (keywordEach kws X.env)).all (·.1.isSome) = true := by rfl) (hks : (backToKw pos (keywordEach kws X.env)).filterMap (·.1) = ks := by rfl)
    (hpl : ((backTo pos (starEach [] X.env)).any (·.1) || (backToKw pos (keywordEach kws X.env)).any (·.1.isNone)) = false := by rfl)
    (ht : eval (.Call (.Attribute o m apos) [] kws pos) X.env = (do
      let ov ← eval o X.env
      standAt apos.atName
      let (f, first) ← holding [ov] (getMethod ov m pl)
      callWith pos f first (backTo pos (starEach [] X.env)) (backToKw pos (keywordEach kws X.env))) := by rfl) :
    PE X (.Call (.Attribute o m apos) [] kws pos) (tMethK C m sp gV E1 ta tk) := by
  refine ⟨fun pins s σ H Q I h => ?_⟩
  refine PySem.W.methodCall_KW (pl := pl) (thn (he.run pins s σ H _ I h) fun u s1 ⟨x, H1, I1, rx, a, dx, fs, ex, ea, l, q⟩ => ?_) ht
  subst ex
  obtain rfl : u = Value.ref a := rx
  refine getmeth_ok I1 ea c hm l ?_
  refine PySem.W.callWith_KW0 (first := [.ref a]) (h₀ := X.base) I.ok.mod.kin hm.kp hall ?_ hpl
  refine thn (hkw.run pos pins s1 σ H1 _ I1 q) fun ws s2 ⟨zs, H2, I2, rz, q2⟩ => ⟨I2.kIn, ?_⟩
  rw [hks]
  exact run_fnk (us := [.ref a]) (vs := [.ref a]) F hr hb hx I2 (.cons rfl .nil) rz q2
theorem PI.or {tg iter : Expr} {w1 w2 : TI} (h1 : PI X tg iter w1) (h2 : PI X tg iter w2) : PI X tg iter (fun σ H R => w1 σ H R ∨ w2 σ H R) := ⟨fun pins s σ H R I h => h.elim (h1.run pins s σ H R I) (h2.run pins s σ H R I)⟩
end
theorem exm_self {K : PySem.W.Frag} {S : Addr} (h1 : PySem.W.subIn K (.ref S) (.type "BaseException") = some true) (h2 : PySem.W.isClsIn K S = true) (h3 : PySem.W.typeIn K (.ref S) = some (.type "type")) (h4 : PySem.W.subIn K (.ref S) (.ref S) = some true) :
    PySem.W.exmOne K (.ref S) (.ref S) = some true := by
  have e1 : (PySem.W.subIn K (.ref S) (.type "BaseException") == some true) = true := by rw [h1] <;> rfl
  have e2 : ((PySem.W.clsIn K S).isSome && PySem.W.typeIn K (.ref S) == some (.type "type")) = true := by
    have h2' : (PySem.W.clsIn K S).isSome = true := h2
    rw [h2', h3] <;> rfl
  show (if (PySem.W.subIn K (.ref S) (.type "BaseException") == some true) = true then (if ((PySem.W.clsIn K S).isSome && PySem.W.typeIn K (.ref S) == some (.type "type")) = true then PySem.W.subIn K (.ref S) (.ref S) else none) else none) = some true
  rw [if_pos e1, if_pos e2]
  exact h4
def tStop (t : TS) : TS := fun D σ H => t { D with nx := fun σ H => Stop (D.nx σ H) } σ H
theorem ps_stop {X : Cx} {st : Stmt} {t : TS} (h : PS X st t) : PS X st (tStop t) := by
  have e : tStop t = t := by
    funext D σ H
    unfold tStop
    simp only [stop_eq]
  rw [e]
  exact h
theorem lc_mapT {K : PySem.W.Frag} {a : Addr} {xs : List V} {g : TG} {te : TE} {vs : List Nat} {σ : L2.St} {H1 : Hp} {D : Addr} {Qd : Hp → Prop} (ys : List V) (ha : SqT K H1 a xs) (hD : H1 D = none) (hl : xs.length = ys.length) (hz : xs.length ≤ 10000)
    (hs : ∀ (i : Nat) (x y : V) (H' : Hp) (Q : VK), xs[i]? = some x → ys[i]? = some y → Same H1 H' → (∀ H'', Same H' H'' → Q y H'') → g x (wipe σ vs) H' fun σ2 H2 => wipe σ2 vs = wipe σ vs ∧ te σ2 H2 Q)
    (hd : ∀ H', Same H1 H' → H' D = some (.lst ys) → Qd H') :
    ∃ W : Nat → Nat → Hp → Prop, (∃ m, W 0 m (upd H1 D (.lst []))) ∧ ∀ i m H, W i m H →
      ((Itt K a).stop i H ∧ Qd H) ∨ ((Itt K a).go i H ∧ ∃ Nx : Hp → Prop, (∀ H', Nx H' → ∃ m', m' < m ∧ W (i + 1) m' H') ∧ ∀ x H', (Itt K a).yld i H x H' → g x (wipe σ vs) H' fun σ2 H2 => wipe σ2 vs = wipe σ vs ∧ tYes σ2 H2 fun b H3 =>
        if b = true then te σ2 H3 fun y H4 => ∃ acc, H4 D = some (.lst acc) ∧ acc.length < sizeLine ∧ Nx (upd H4 D (.lst (acc ++ [y]))) else Nx H3) := by
  refine lc_tup (xs := xs) (fun i H => Same H1 H ∧ H D = some (.lst (ys.take i))) ⟨same_upd hD, upd_same⟩ (fun i H _ h => ha.elim (fun r => r.elim (fun e => .inl (.inl (h.1 _ _ e))) (fun ⟨o, e⟩ => .inl (.inr ⟨o, h.1 _ _ e⟩))) .inr) (fun i x H hx h => ?_) (fun H h => hd H h.1 (by rw [h.2, List.take_of_length_le (by omega)]))
  have hi : i < ys.length := by have := (List.getElem?_eq_some_iff.mp hx).1; omega
  refine hs i x ys[i] H _ hx (List.getElem?_eq_getElem hi) h.1 (fun H'' s => ?_)
  refine ⟨ys.take i, s _ _ h.2, size_lt (by simp; omega), same_set (L2.Same.trans h.1 s) hD, ?_⟩
  rw [upd_same, List.take_add_one, List.getElem?_eq_getElem hi]; rfl
/-! ### two things of the same data -/
def FlatD (n : Nat) (d : PyData) : Prop := d.canLay0 = true ∧ d.depth ≤ n
theorem flat_all {n : Nat} : ∀ ds : List PyData, (∀ d ∈ ds, FlatD n d) → PyData.canLayAll0 ds = true ∧ PyData.depthAll ds ≤ n
  | [], _ => by simp [PyData.canLayAll0, PyData.depthAll]
  | d :: r, h => by
    have i := flat_all r fun x hx => h x (List.mem_cons_of_mem _ hx)
    have j := h d List.mem_cons_self
    unfold FlatD at j
    simp only [PyData.canLayAll0, PyData.depthAll, j.1, i.1, Bool.and_self, true_and]
    omega
theorem flat_list {n : Nat} {ds : List PyData} (h : ∀ d ∈ ds, FlatD n d) : FlatD (n + 1) (.list ds) := by
  have i := flat_all ds h
  exact ⟨by simp only [PyData.canLay0]; exact i.1, by simp only [PyData.depth]; omega⟩
theorem flat_tup {n : Nat} {ds : List PyData} (h : ∀ d ∈ ds, FlatD n d) : FlatD (n + 1) (.tuple ds) := by
  have i := flat_all ds h
  exact ⟨by simp only [PyData.canLay0]; exact i.1, by simp only [PyData.depth]; omega⟩
theorem flat_int (n : Nat) (i : Int) : FlatD n (.int i) := ⟨by simp [PyData.canLay0], by simp [PyData.depth]⟩
theorem flat_sh {n : Nat} {d : PyData} (h : FlatD n d) (hn : n ≤ 64 := by decide) : SeqAt.shaped d = true := by
  show (PyData.canLay0 d && decide (PyData.depth d ≤ 64)) = true
  rw [Bool.and_eq_true]
  exact ⟨h.1, decide_eq_true (Nat.le_trans h.2 hn)⟩
theorem op_eqS {X : Cx} (hu : X.A.units + 64 < cLine) : OpR X (compareOp .Eq) (fun x y H Q => ∃ d, Dp X.K H x d ∧ Dp X.K H y d ∧ SeqAt.shaped d = true ∧ Q (.bl true) H) := by
  intro pins s σ H x y v u Q I rx ry ⟨d, h1, h2, hs, k⟩
  refine op_eqD hu pins s σ H x y v u Q I rx ry ⟨d, d, h1, h2, hs, hs, ?_⟩
  rw [SeqAt.eqv_refl d (SeqAt.canLay_of_shaped hs)]; exact k
theorem op_neS {X : Cx} (hu : X.A.units + 64 < cLine) : OpR X (compareOp .NotEq) (fun x y H Q => ∃ d, Dp X.K H x d ∧ Dp X.K H y d ∧ SeqAt.shaped d = true ∧ Q (.bl false) H) := by
  intro pins s σ H x y v u Q I rx ry ⟨d, h1, h2, hs, k⟩
  refine op_neD hu pins s σ H x y v u Q I rx ry ⟨d, d, h1, h2, hs, hs, ?_⟩
  rw [SeqAt.eqv_refl d (SeqAt.canLay_of_shaped hs)]; exact k
/-- the only error's __init__: self.value = value -/
def spEI (C : Addr) : Sp := fun vs H Q _ => ∃ (a : Addr) (v : V), vs = [.ref a, v] ∧ H a = some (exo a C none) ∧ ∀ dx, H dx = none → dx ≠ a → Q .non (upd (upd H dx (exd dx [("value", v)])) a (exo a C (some dx)))
theorem ei_same {H : Hp} {a dx C : Addr} {fs : List (Str × V)} {o u : HO} (ha : H a = none) (hd : upd H a o dx = none) (ne : dx ≠ a) :
    Same H (upd (del (upd (upd (upd H a o) dx u) a (exo a C (some dx))) a) dx (.xd fs)) := fun b v e => by
  have n1 : b ≠ a := ne_of_none e ha
  have n2 : b ≠ dx := by
    intro z
    rw [z] at e
    rw [upd_ne ne] at hd
    rw [hd] at e
    cases e
  rw [upd_ne n2, del_ne n1, upd_ne n1, upd_ne n2, upd_ne n1]
  exact e
end Hx

set_option Elab.async false
set_option linter.all false
set_option maxRecDepth 100000
set_option maxHeartbeats 4000000
namespace Hx
open PySem PySem.Spec PyProof.Rows L2
/-! ### promises of defs under which no repr is under way -/
/-- as FnOk, for calls around which nothing is being written out -/
structure FnG (P : Program) (w : World) (K : PySem.W.Frag) (mg : Str → Option Value) (base : Heap) (k : Nat) (f : Addr) (fd : FuncData) (ps : List Str) (sp : Sp) : Prop where
  len : ∀ vs H Q E, sp vs H Q E → vs.length = ps.length
  run : ∀ (A : Around) (outer : List Env) (s : Shared) (H : Hp) (args : Args) (us : List Value) (vs : List V) (Q : VK) (E : XK), A.guards = some [] → Room k A → Env0 P w K mg base A outer s H → BindsTo s fd args (ps.zip us) → Vals vs us → sp vs H Q E →
    codeAny (model P w) A (.call (.ref f) args) (CR CX0 outer P w H s Q E) s
theorem FnG.mono {P : Program} {w : World} {K : PySem.W.Frag} {mg : Str → Option Value} {base : Heap} {j k : Nat} {f : Addr} {fd : FuncData} {ps : List Str} {sp : Sp} (F : FnG P w K mg base j f fd ps sp) (h : j ≤ k) : FnG P w K mg base k f fd ps sp :=
  ⟨F.len, fun A o s H a us vs Q E g r => F.run A o s H a us vs Q E g (r.mono h)⟩
theorem fnG {P : Program} {w : World} {K : PySem.W.Frag} {mg : Str → Option Value} {base : Heap} {x qual : Str} {st : Stmt} {f : Addr} {fd : FuncData} {N ps : List Str} {k : Nat} {sp : Sp} (F : Fun K x qual st f fd) (S : FnScope N ps (defScope st)) (len : ∀ vs H Q E, sp vs H Q E → vs.length = ps.length)
    (hbody : ∀ (cdv : Value) (A : Around) (outer : List Env) (s : Shared) (H : Hp) (vs : List V) (Q : VK) (E : XK), Room k (A.deeper (envOfC qual (defScope st) s.heap.objs.size f cdv)) → (A.deeper (envOfC qual (defScope st) s.heap.objs.size f cdv)).guards = some [] → sp vs H Q E →
      ∃ t, PSs (cxOf CX0 P w K mg base N qual (defScope st) f cdv A outer s H E).nox (defBody st) t ∧ t { nx := fun _ H' => Q .non H', rt := Q } (start N vs) H) : FnG P w K mg base (k + 1) f fd ps sp := by
  obtain ⟨oc, od, kV, doc, pm, an, cdv, ct, osl, rfl, lk, hcd⟩ := F.ex
  constructor
  · exact len
  intro A outer s H args us vs Q E hg hr e0 hb r hsp
  have old := fun b o e => (e0.bs b o e).1
  have KX := e0.mod.kin.keeps old
  have lim := e0.mod.nolimit.keeps old
  apply codeAny_call_function hr.depth (KX _ _ lk) rfl S.co S.gen rfl (PySem.W.codeRec_of KX hcd)
  apply hb
  apply wpAny_newFunctionEnv_cells S.kind
  · intro y hy
    exact (S.par y.1 (List.of_mem_zip hy).1).imp id fun q => ⟨q, PySem.W.cellsFrom_some _ _ _ (.inl q)⟩
  intro env he s1 x
  subst he
  refine ⟨lim.keeps x.toInCall.keep, codeAny_func ?_⟩
  obtain ⟨t, ht, hq⟩ := hbody cdv A outer s H vs Q E (hr.deeper _) hg hsp
  have I := inv_start (CX := CX0) (E := E) (base := base) S hr.hd e0 (len _ _ _ _ hsp) r x
  refine wpAny_mono (ht.nox.run [] s1 _ H _ I hq) (fun fl s' hs => ?_) fun e s' hs => hs
  match fl, hs with
  | .ret u, ⟨v, _, H', J, rv, q⟩ => exact ⟨v, H', J.os, J.bare, J.base, J.hok, rv, q⟩
  | .next, ⟨_, H', J, q⟩ => exact ⟨V.non, H', J.os, J.bare, J.base, J.hok, rfl, q⟩
  | .brk, ⟨_, _, _, q⟩ => exact q.elim
  | .cont, ⟨_, _, _, q⟩ => exact q.elim
section
variable {X : Cx} {k : Nat} {f : Addr} {fd : FuncData} {ps : List Str} {sp : Sp} {E : XK} {x : Str} {p pos : Pos} {e : Expr} {es : List Expr} {t : TA}
/-- f(e, ..) of such a def -/
theorem pe_callG (hu : X.A.guards = some []) (F : FnG X.prog X.w X.K X.mg X.base k f fd ps sp) (hr : Room k X.A) (hg : Gl X x) (hm : X.mg x = some (.ref f)) (hk : PySem.W.keepIn X.K (.ref f) = true) (hb : Binds X.K fd ps [])
    (ha : PA X (e :: es) t) (hdb : (x == ("__debug__" : Str)) = false := by decide) (he : starEach (e :: es) X.env = (false, eval e X.env) :: starEach es X.env := by rfl) (hpl : (backTo pos (starEach es X.env)).any (·.1) = false := by rfl) :
    PE X (.Call (.Name x p) (e :: es) [] pos) (tCall sp [] E t) := by
  constructor
  intro pins s σ H Q I h
  apply wpAny_Call_Name_kw (ld_glob I hg hm ?_ hdb)
  refine PySem.W.callWith_K (h₀ := X.base) I.ok.mod.kin hk (thn (ha.run pos pins s σ H _ I h) fun us s1 ⟨vs, H1, I1, r, q⟩ => ⟨I1.kIn, ?_⟩) he hpl
  have q : sp (vs ++ []) H1 Q E := q
  rw [List.append_nil] at q
  have hl : us.length = ps.length := by rw [← r.length]; exact F.len _ _ _ _ q
  have b := hb s1 us I1.kIn (by rw [List.append_nil]; exact hl)
  rw [List.append_nil] at b
  refine wpAny_call (codeAny_mono (F.run X.A X.stack s1 H1 ⟨us, []⟩ us vs Q E hu hr I1.env0 b r q) fun r s' hq => ?_)
  match r, hq with
  | .ok (.ret u), hq => exact I1.after hq
  | .error e, hq => exact False.elim hq
  | .ok .next, hq => exact False.elim hq
  | .ok .brk, hq => exact False.elim hq
  | .ok .cont, hq => exact False.elim hq
/-- repr of a list, a tuple, of things that show -/
theorem call_reprG (hg : X.A.guards = some []) (hr : Room 0 X.A) : CallR X (.builtin "repr") (fun xs H Q => ∃ (a : Addr) (d : PyData), xs = [.ref a] ∧ Dp X.K H (.ref a) d ∧ d.showable = true ∧ d.hasDict = false ∧ d.depth ≤ 64 ∧ d.shown.length ≤ sizeLine ∧ Q (.str d.shown) H) := by
  intro pins s σ H xs us Q I r h
  obtain ⟨a, d, rfl, hd, hs, hn, hp, hz, q⟩ := h
  rw [Vals.ref1 r]
  obtain ⟨as, hR⟩ := Dp.reads I d _ (.ref a) hd rfl
  have hu := hr.un
  exact repr_of_reads' hR hs (fun z => by rw [hn] at z; cases z) hg (by omega) (fun _ _ e => e) (fun h' u tk hk => ⟨.str _, H, I.kept hk, ⟨_, rfl⟩, q⟩) hz
end
theorem call_repr_bl {X : Cx} : CallR X (.builtin "repr") (fun xs H Q => ∃ b : Bool, xs = [.bl b] ∧ Q (.str (if b then "True" else "False")) H) := by
  intro pins s σ H xs us Q I r h
  obtain ⟨b, rfl, q⟩ := h
  cases r with
  | cons ru rn =>
    cases rn
    cases ru
    exact PySem.P.repr_of_bool ⟨.str _, H, I.tok _, ⟨_, rfl⟩, q⟩
/-! ### the head's call of such a law -/
theorem law_callG {P : Program} {w : World} {K : PySem.W.Frag} {mg mb : Str → Option Value} {k : Nat} {fa a : Addr} {fd : FuncData} {x : Str} {sp : Sp} {s : Shared} {vs : List Value} {ns : List Int}
    (KX : K.In s.heap) (hns : s.heap.Ns mainGlobals mg) (hb : s.heap.Ns builtinsNs mb) (hbb : ∀ x : Str, x ≠ "__name__" → mb x = bootBuiltins x) (hlim : s.heap.NoLimit) (hg : s.gens = #[])
    (ha : s.heap.get? a = some { cls := .type "list", data := .seq vs.toArray }) (hi : IntsAre vs ns) (hl : ns.length ≤ sizeLine) (hr : Room k callerA)
    (F : ∀ base : Heap, K.In base → base.Ns mainGlobals mg → FnG P w K mg base k fa fd [x] sp) (hbind : ∀ (s : Shared) (u : Value), BindsTo s fd ⟨[u], []⟩ [(x, u)])
    (hsp : ∀ H : Hp, Only H → SqL K H a (ns.map V.int) → sp [.ref a] H (fun v _ => v = .bl true) fun _ _ _ => False) :
    codeAny (model P w) callerA (.call (.ref fa) ⟨[.ref a], []⟩) (fun r s' => r = .ok (.ret (.bool true)) ∧ OldK s.heap s'.heap ∧ s'.os = s.os ∧ AllBare s'.gens) s := by
  let fz : HO := .frz { cls := .type "list", data := .seq vs.toArray } (.lst (ns.map V.int))
  let H : Hp := fun b => if b = a ∧ K.lookup a = none then some fz else none
  have rv := vals_ints hi
  have hH : ∀ {b : Addr} {u : HO}, H b = some u → b = a ∧ K.lookup a = none ∧ u = fz := fun {b u} z => by
    by_cases q : b = a ∧ K.lookup a = none
    · have z' := (if_pos q).symm.trans z
      exact ⟨q.1, q.2, (Option.some.inj z').symm⟩
    · have z' := (if_neg q).symm.trans z
      cases z'
  have hO : Only H := fun b => by
    by_cases q : b = a ∧ K.lookup a = none
    · exact .inr ⟨_, _, if_pos q⟩
    · exact .inl (if_neg q)
  have hok : HOk P w H s.heap := fun b u z => by
    obtain ⟨rfl, _, rfl⟩ := hH z
    exact ⟨ha, by rw [List.length_map]; exact hl, vs, _, rv, ha⟩
  have hS : SqL K H a (ns.map V.int) := by
    cases hk : K.lookup a with
    | some o =>
      have e := KX a o hk
      rw [ha] at e
      cases e
      exact .inr ⟨_, vs.toArray, _, hk, rfl, rfl, rfl, by rw [List.size_toArray, hi.length]; exact hl, by simpa using rv⟩
    | none => exact .inl (.inr ⟨_, if_pos ⟨rfl, hk⟩⟩)
  have hid : ∀ {b : Addr} {o : Obj}, s.heap.get? b = some o → (b = a → K.lookup a = none → False) → (hidT s.heap H).get? b = some o := fun {b o} e n => hidT_get e (by
    cases q : H b with
    | none => rfl
    | some u => exact (n (hH q).1 (hH q).2.1).elim)
  have nsK : ∀ {b : Addr} {m : Str → Option Value}, s.heap.Ns b m → (hidT s.heap H).Ns b m := fun {b m} ⟨o, es, ep, e, d, r⟩ => ⟨o, es, ep, hid e (fun z _ => by
    subst z
    rw [ha] at e
    cases e
    have d' : Data.seq vs.toArray _ = Data.dict es ep := d
    cases d'), d, r⟩
  have hKb : K.In (hidT s.heap H) := fun b o e => hid (KX b o e) fun z n => by
    subst z
    rw [n] at e
    cases e
  have e0 : Env0 P w K mg (hidT s.heap H) callerA [] s H := ⟨rfl, ⟨hKb, nsK hns, ⟨mb, nsK hb, hbb⟩, hlim.elim fun mc h => ⟨mc, nsK h.1, h.2⟩⟩, fun b o e => of_hidT e, Nat.le_of_eq (hidT_size _ _), trivial, fun b hb => absurd hb List.not_mem_nil, hok, .of_eq hg⟩
  refine codeAny_mono ((F _ hKb (nsK hns)).run callerA [] s H ⟨[.ref a], []⟩ [.ref a] [.ref a] _ _ rfl hr e0 (hbind s (.ref a)) (.cons rfl .nil) (hsp H hO hS)) fun r s' h => ?_
  match r, h with
  | .error e, h => exact h.elim
  | .ok .next, h => exact False.elim h
  | .ok .brk, h => exact False.elim h
  | .ok .cont, h => exact False.elim h
  | .ok (.ret u), ⟨v, H', os, bare, un, hok', r', q⟩ =>
    obtain rfl : v = .bl true := q
    obtain rfl : u = Value.bool true := r'
    refine ⟨rfl, OldK.of_keep fun b o e => ?_, os, bare⟩
    cases q : H b with
    | none => exact un.keep b o e q (fun z => List.not_mem_nil z) List.not_mem_nil
    | some u =>
      obtain ⟨rfl, _, rfl⟩ := hH q
      obtain ⟨e1, _⟩ := hok _ _ q
      obtain ⟨e2, _⟩ := hok' _ _ (un.frzs _ _ _ q)
      rw [e] at e1
      cases e1
      exact e2
theorem walk_ofG {l : PySem.W.OpenLaw} {n k : Nat} {q : Program} {loose : List Str} {XP : (Str → Option Value) → Heap → Prop} {YP : World → Heap → Prop} {d : DefRec} {K : Params → PySem.W.Frag} {sp : World → Sp} {x : Str}
    (hn : l.most = some n) (hn2 : n ≤ sizeLine) (hdf : d.params.defaults = []) (hr : Room k callerA)
    (hY : ∀ (w : World) (h : Heap), YP w h → (K w.params).In h)
    (F : ∀ (w : World) (mg : Str → Option Value) (fa : Addr) (h : Heap), (K w.params).In h → h.Ns mainGlobals mg → mg d.name = some (.ref fa) →
      ∃ fd : FuncData, (∀ (s : Shared) (u : Value), BindsTo s fd ⟨[u], []⟩ [(x, u)]) ∧ ∀ base : Heap, (K w.params).In base → base.Ns mainGlobals mg → FnG l.prog w (K w.params) mg base k fa fd [x] (sp w))
    (hsp : ∀ (w : World) (H : Hp) (a : Addr) (ns : List Int), ns.length ≤ n → Only H → SqL (K w.params) H a (ns.map V.int) → sp w [.ref a] H (fun v _ => v = .bl true) fun _ _ _ => False) :
    PySem.W.WalkO q loose XP YP l.row.toRowW d [] (fun f vs => PySem.call f vs) := by
  apply Att.attach_call hn hdf
  intro w s₀ s₁ mg mb fa o pm cd doc a vs ns G Y ho hd hcd hmg hobj hints hlen hg
  obtain ⟨fd, hb, hF⟩ := F w mg fa _ (hY w _ Y) G.T.g hmg
  exact law_callG (hY w _ Y) G.T.g G.T.b G.T.builtins G.T.nolimit hg hobj hints (Nat.le_trans hlen hn2) hr hF hb fun H hO hS => hsp w H a ns hlen hO hS
end Hx

set_option Elab.async false
set_option linter.all false
set_option maxRecDepth 100000
set_option maxHeartbeats 4000000
namespace Hx
open PySem PySem.Spec PyProof.Rows L2
/-- x == y by the class's own ==, whatever it answers -/
theorem op_eqOwn {X : Cx} {n : Nat} {C f : Addr} {fd : FuncData} {ps : List Str} {sp : Sp} (F : FnOk X.prog X.w X.K X.mg X.base CX0 n f fd ps sp) (hr : Room n X.A)
    (hs : PySem.W.findIn X.K (.ref C) "__eq__" = some (some (.ref f))) (hf : PySem.W.isFn X.K (.ref f) = true) (hb : Binds X.K fd ps []) :
    OpR X (compareOp .Eq) (fun x y H Q => ∃ a b dx dy fs gs, x = .ref a ∧ y = .ref b ∧ H a = some (.ins C dx fs) ∧ H b = some (.ins C dy gs) ∧ sp [.ref a, .ref b] H (fun v H' => ∃ c, v = .bl c ∧ Q (.bl c) H') (fun _ _ _ => False)) := by
  intro pins s σ H x y v u Q I rx ry h
  obtain ⟨a, b, dx, dy, fs, gs, rfl, rfl, ha, hb', hsp⟩ := h
  cases rx
  cases ry
  obtain ⟨mA, J, _⟩ := ins_get I.hok ha
  obtain ⟨mB, J', _⟩ := ins_get I.hok hb'
  obtain ⟨od, J, _⟩ := J.look
  obtain ⟨od', J', _⟩ := J'.look
  obtain ⟨m, hF⟩ := I.fr
  have hu := hr.un
  refine PySem.W.cmp_K (op := .Eq) (tb := .ref C) (by omega) hF I.ok.mod.kin J J'.type (by simp [PySem.W.notFirst]) hs hf ?_
  have hl := F.len _ _ _ _ hsp
  have r2 : Vals [V.ref a, V.ref b] [Value.ref a, Value.ref b] := .cons rfl (.cons rfl .nil)
  have hB : BindsTo s fd ⟨[.ref a, .ref b], []⟩ (ps.zip [.ref a, .ref b]) := by
    have := hb s [.ref a, .ref b] I.kIn (by simpa using hl)
    simpa using this
  refine wpAny_call (codeAny_mono (F.run X.A X.stack s H ⟨[.ref a, .ref b], []⟩ [.ref a, .ref b] [.ref a, .ref b] _ _ hr I.env0 hB r2 hsp) fun r s' hq => ?_)
  match r, hq with
  | .ok (.ret w), hq =>
    obtain ⟨z, H', I', rz, c, rfl, q⟩ := I.after hq
    cases rz
    exact ⟨.bl c, H', I', rfl, q⟩
  | .error e, hq => exact False.elim hq
  | .ok .next, hq => exact False.elim hq
  | .ok .brk, hq => exact False.elim hq
  | .ok .cont, hq => exact False.elim hq
/-! ### how long the text of whole numbers is -/
theorem text_le : ∀ (ts : List Str) (k : Nat) (acc : Str), (textFrom k acc ts).length ≤ acc.length + piled ts
  | [], _, acc => Nat.le_add_right _ _
  | t :: r, k, acc => by
    have ih := text_le r (k + 1) (acc ++ (if k > 0 then ", " else "" : String) ++ t)
    have e : (acc ++ (if k > 0 then ", " else "" : String) ++ t).length ≤ acc.length + 2 + t.length := by
      rw [strLen_append, strLen_append]
      split
      · exact Nat.le_refl _
      · exact Nat.add_le_add_right (Nat.add_le_add_left (Nat.zero_le 2) _) _
    show (textFrom (k + 1) _ r).length ≤ _
    rw [piled_cons]; omega
theorem piled_words : ∀ ns : List Int, (∀ n ∈ ns, 0 ≤ n ∧ n < 10 ^ 20) → piled (PyData.shownAll (ns.map PyData.int)) ≤ 22 * ns.length
  | [], _ => Nat.le_refl _
  | n :: r, h => by
    have i := piled_words r fun x hx => h x (List.mem_cons_of_mem _ hx)
    have j := toString_length_le (h n List.mem_cons_self).1 (by decide : 0 < 20) (h n List.mem_cons_self).2
    rw [List.map_cons, PyData.shownAll, piled_cons, PyData.shown, List.length_cons]
    omega
theorem words_dict : ∀ ns : List Int, PyData.hasDictAll (ns.map PyData.int) = false
  | [] => rfl
  | n :: r => by rw [List.map_cons, PyData.hasDictAll, PyData.hasDict, words_dict r] <;> rfl
theorem log_small {n : Int} (h : 0 ≤ n ∧ n < 10 ^ 20) : n.natAbs.log2 < 1920 := by
  by_cases z : n.natAbs = 0
  · rw [z]; decide
  · refine Nat.lt_trans (m := 67) ?_ (by decide)
    rw [Nat.log2_lt z]
    omega
theorem words_show : ∀ ns : List Int, (∀ n ∈ ns, 0 ≤ n ∧ n < 10 ^ 20) → PyData.showableAll (ns.map PyData.int) = true
  | [], _ => rfl
  | n :: r, h => by
    rw [List.map_cons, PyData.showableAll, PyData.showable, words_show r fun x hx => h x (List.mem_cons_of_mem _ hx), decide_eq_true (log_small (h n List.mem_cons_self))] <;> rfl
theorem words_depth : ∀ ns : List Int, PyData.depthAll (ns.map PyData.int) = 0
  | [] => by simp [PyData.depthAll]
  | n :: r => by simp [PyData.depthAll, PyData.depth, words_depth r]
/-- a list of words: all that repr asks -/
theorem shown_words {ns : List Int} (h : ∀ n ∈ ns, 0 ≤ n ∧ n < 10 ^ 20) (hl : ns.length ≤ 400) : (PyData.list (ns.map PyData.int)).showable = true ∧ (PyData.list (ns.map PyData.int)).hasDict = false ∧ (PyData.list (ns.map PyData.int)).depth ≤ 64 ∧ (PyData.list (ns.map PyData.int)).shown.length ≤ sizeLine := by
  refine ⟨by rw [PyData.showable]; exact words_show ns h, by rw [PyData.hasDict]; exact words_dict ns, by rw [PyData.depth, words_depth]; decide, ?_⟩
  rw [PyData.shown]
  have a := text_le (PyData.shownAll (ns.map PyData.int)) 0 "["
  have b := piled_words ns h
  show (textFrom 0 "[" _ ++ "]").length ≤ _
  rw [strLen_append, sizeLine_eq]
  have e : (("[" : String) : Str).length = 1 := rfl
  have e2 : (("]" : String) : Str).length = 1 := rfl
  rw [e] at a
  rw [e2]
  omega
/-! ### o.m(b=.., a=..) of two, in the other sequence -/
def kwR {α : Type} (us ws : List α) : List α := match us, ws with | [x], [b, a] => [x, a, b] | _, _ => []
theorem kw_bindsR {K : PySem.W.Frag} {x qual : Str} {st : Stmt} {f : Addr} {fd : FuncData} {ps : List Str} {p0 p1 p2 : Str} (F : Fun K x qual st f fd) (hp : ps = [p0, p1, p2])
    (h : ∀ (kV doc pm : Value) (an : Option Addr) (cdv ct : Value) (u a b : Value), bindArgs (PySem.W.fnOf x qual (defArgs st) (defBody st) (defScope st) .none kV doc pm an cdv ct) ⟨[u], [(p2, b), (p1, a)]⟩ = pure [(p0, u), (p1, a), (p2, b)]) : KBinds K fd ps [p2, p1] kwR kwR := by
  obtain ⟨oc, od, kV, doc, pm, an, cdv, ct, osl, rfl, lk, hcd⟩ := F.ex
  subst hp
  refine ⟨fun s us ws _ hl => ?_, fun {vs us zs ws} r1 r2 => ?_⟩
  · match us, ws, hl with
    | [u], [b, a], _ => exact .of_eq (h kV doc pm an cdv ct u a b)
    | [], _, hl => simp [kwR] at hl
    | [_], [], hl => simp [kwR] at hl
    | [_], [_], hl => simp [kwR] at hl
    | [_], _ :: _ :: _ :: _, hl => simp [kwR] at hl
    | _ :: _ :: _, _, hl => simp [kwR] at hl
  · cases r1 with
    | nil => exact .nil
    | cons a t =>
      cases t with
      | cons b t => exact .nil
      | nil =>
        cases r2 with
        | nil => exact .nil
        | cons b r2 =>
          cases r2 with
          | nil => exact .nil
          | cons c r2 =>
            cases r2 with
            | nil => exact .cons a (.cons c (.cons b .nil))
            | cons _ _ => exact .nil
/-! ### a list of ints beside the empty one -/
theorem eqv_nil (ns : List Int) : PyData.eqv (.list (ns.map PyData.int)) (.list []) = ns.isEmpty := by
  cases ns with
  | nil => exact eqv_ints []
  | cons a r => simp [PyData.eqv, PyData.eqvAll]
theorem op_neNil {X : Cx} (hu : X.A.units + 64 < cLine) : OpR X (compareOp .NotEq) (fun x y H Q => ∃ (p q : Addr) (ns : List Int), x = .ref p ∧ y = .ref q ∧ SqL X.K H p (ns.map V.int) ∧ SqL X.K H q [] ∧ Q (.bl (!ns.isEmpty)) H) := by
  intro pins s σ H x y v u Q I rx ry ⟨p, q, ns, e1, e2, h1, h2, k⟩
  refine op_neD hu pins s σ H x y v u Q I rx ry ⟨.list (ns.map PyData.int), .list [], ?_, ?_, ?_, ?_, ?_⟩
  · rw [e1]; exact .lst h1 (dp_ints ns)
  · rw [e2]; exact .lst h2 .nil
  · exact sh_ints ns
  · exact sh_ints []
  · rw [eqv_nil]; exact k
end Hx

set_option Elab.async false
set_option linter.all false
set_option maxRecDepth 100000
set_option maxHeartbeats 8000000

namespace K32
open PySem PySem.Spec PyProof.Rows L2 Hx
def top (i : Nat) : Stmt := PySem.Challenge.pw_orderlycore_k32_whole_devices_by_their_d.main.body.getD i (.Pass ⟨0, 0, 0, 0⟩)
abbrev s_is_integer : Stmt := top 9
theorem sc_is_integer : FnScope ["value"] ["value"] (defScope s_is_integer) := ⟨rfl, rfl, rfl, by decide +kernel, rfl, by decide +kernel, by decide +kernel⟩
abbrev s_is_between : Stmt := top 10
theorem sc_is_between : FnScope ["value", "least", "most"] ["value", "least", "most"] (defScope s_is_between) := ⟨rfl, rfl, rfl, by decide +kernel, rfl, by decide +kernel, by decide +kernel⟩
abbrev s_is_list : Stmt := top 11
theorem sc_is_list : FnScope ["value"] ["value"] (defScope s_is_list) := ⟨rfl, rfl, rfl, by decide +kernel, rfl, by decide +kernel, by decide +kernel⟩
abbrev s_is_word : Stmt := top 14
theorem sc_is_word : FnScope ["value"] ["value"] (defScope s_is_word) := ⟨rfl, rfl, rfl, by decide +kernel, rfl, by decide +kernel, by decide +kernel⟩
abbrev s_is_word_list : Stmt := top 15
theorem sc_is_word_list : FnScope ["value", "one"] ["value"] (defScope s_is_word_list) := ⟨rfl, rfl, rfl, by decide +kernel, rfl, by decide +kernel, by decide +kernel⟩
abbrev s_need_word : Stmt := top 16
theorem sc_need_word : FnScope ["value"] ["value"] (defScope s_need_word) := ⟨rfl, rfl, rfl, by decide +kernel, rfl, by decide +kernel, by decide +kernel⟩
abbrev s_Devices_init : Stmt := inClass (top 25) 0
theorem sc_Devices_init : FnScope ["self", "inputs"] ["self", "inputs"] (defScope s_Devices_init) := ⟨rfl, rfl, rfl, by decide +kernel, rfl, by decide +kernel, by decide +kernel⟩
abbrev s_Devices_can : Stmt := inClass (top 25) 1
theorem sc_Devices_can : FnScope ["self", "place"] ["self", "place"] (defScope s_Devices_can) := ⟨rfl, rfl, rfl, by decide +kernel, rfl, by decide +kernel, by decide +kernel⟩
abbrev s_Devices_read : Stmt := inClass (top 25) 2
theorem sc_Devices_read : FnScope ["self", "place"] ["self", "place"] (defScope s_Devices_read) := ⟨rfl, rfl, rfl, by decide +kernel, rfl, by decide +kernel, by decide +kernel⟩
abbrev s_Devices_write : Stmt := inClass (top 25) 3
theorem sc_Devices_write : FnScope ["self", "place", "word"] ["self", "place", "word"] (defScope s_Devices_write) := ⟨rfl, rfl, rfl, by decide +kernel, rfl, by decide +kernel, by decide +kernel⟩
abbrev s_Devices_raised : Stmt := inClass (top 25) 4
theorem sc_Devices_raised : FnScope ["self", "line"] ["self", "line"] (defScope s_Devices_raised) := ⟨rfl, rfl, rfl, by decide +kernel, rfl, by decide +kernel, by decide +kernel⟩
abbrev s_Devices_counted : Stmt := inClass (top 25) 5
theorem sc_Devices_counted : FnScope ["self"] ["self"] (defScope s_Devices_counted) := ⟨rfl, rfl, rfl, by decide +kernel, rfl, by decide +kernel, by decide +kernel⟩
abbrev s_Devices_due : Stmt := inClass (top 25) 6
theorem sc_Devices_due : FnScope ["self", "mask", "line"] ["self", "mask"] (defScope s_Devices_due) := ⟨rfl, rfl, rfl, by decide +kernel, rfl, by decide +kernel, by decide +kernel⟩
abbrev s_Devices_lowered : Stmt := inClass (top 25) 7
theorem sc_Devices_lowered : FnScope ["self", "line"] ["self", "line"] (defScope s_Devices_lowered) := ⟨rfl, rfl, rfl, by decide +kernel, rfl, by decide +kernel, by decide +kernel⟩
abbrev s_Devices_outputs : Stmt := inClass (top 25) 8
theorem sc_Devices_outputs : FnScope ["self"] ["self"] (defScope s_Devices_outputs) := ⟨rfl, rfl, rfl, by decide +kernel, rfl, by decide +kernel, by decide +kernel⟩
abbrev s_Devices_left : Stmt := inClass (top 25) 9
theorem sc_Devices_left : FnScope ["self"] ["self"] (defScope s_Devices_left) := ⟨rfl, rfl, rfl, by decide +kernel, rfl, by decide +kernel, by decide +kernel⟩
abbrev s_Devices_steps : Stmt := inClass (top 25) 10
theorem sc_Devices_steps : FnScope ["self"] ["self"] (defScope s_Devices_steps) := ⟨rfl, rfl, rfl, by decide +kernel, rfl, by decide +kernel, by decide +kernel⟩
abbrev s_Devices_told : Stmt := inClass (top 25) 11
theorem sc_Devices_told : FnScope ["self", "lines", "line"] ["self"] (defScope s_Devices_told) := ⟨rfl, rfl, rfl, by decide +kernel, rfl, by decide +kernel, by decide +kernel⟩
abbrev s_Devices_copy : Stmt := inClass (top 25) 12
theorem sc_Devices_copy : FnScope ["self", "made"] ["self"] (defScope s_Devices_copy) := ⟨rfl, rfl, rfl, by decide +kernel, rfl, by decide +kernel, by decide +kernel⟩
abbrev s_Devices_eq : Stmt := inClass (top 25) 13
theorem sc_Devices_eq : FnScope ["self", "other"] ["self", "other"] (defScope s_Devices_eq) := ⟨rfl, rfl, rfl, by decide +kernel, rfl, by decide +kernel, by decide +kernel⟩
abbrev s_Devicesneed_there : Stmt := inClass (top 25) 14
theorem sc_Devicesneed_there : FnScope ["self", "place"] ["self", "place"] (defScope s_Devicesneed_there) := ⟨rfl, rfl, rfl, by decide +kernel, rfl, by decide +kernel, by decide +kernel⟩
abbrev s_are_inputs : Stmt := top 26
theorem sc_are_inputs : FnScope ["value"] ["value"] (defScope s_are_inputs) := ⟨rfl, rfl, rfl, by decide +kernel, rfl, by decide +kernel, by decide +kernel⟩
abbrev s_is_line : Stmt := top 27
theorem sc_is_line : FnScope ["value"] ["value"] (defScope s_is_line) := ⟨rfl, rfl, rfl, by decide +kernel, rfl, by decide +kernel, by decide +kernel⟩
abbrev s_need_line : Stmt := top 28
theorem sc_need_line : FnScope ["value"] ["value"] (defScope s_need_line) := ⟨rfl, rfl, rfl, by decide +kernel, rfl, by decide +kernel, by decide +kernel⟩
abbrev s_Lpot : Stmt := top 30
theorem sc_Lpot : FnScope ["_law_script", "_law_k", "_law_cell"] ["_law_script", "_law_k"] (defScope s_Lpot) := ⟨rfl, rfl, rfl, by decide +kernel, rfl, by decide +kernel, by decide +kernel⟩
abbrev s_Ldraw : Stmt := top 31
theorem sc_Ldraw : FnScope ["_law_pot_here", "_law_many", "_law_digit"] ["_law_pot_here", "_law_many"] (defScope s_Ldraw) := ⟨rfl, rfl, rfl, by decide +kernel, rfl, by decide +kernel, by decide +kernel⟩
abbrev s_Lpick : Stmt := top 32
theorem sc_Lpick : FnScope ["_law_pot_here", "_law_some"] ["_law_pot_here", "_law_some"] (defScope s_Lpick) := ⟨rfl, rfl, rfl, by decide +kernel, rfl, by decide +kernel, by decide +kernel⟩
abbrev s_Ltold : Stmt := top 33
theorem sc_Ltold : FnScope ["_law_parts", "_law_lines", "_law_line"] ["_law_parts"] (defScope s_Ltold) := ⟨rfl, rfl, rfl, by decide +kernel, rfl, by decide +kernel, by decide +kernel⟩
abbrev s_Lread : Stmt := top 34
theorem sc_Lread : FnScope ["_law_parts", "_law_place", "_law_word"] ["_law_parts", "_law_place"] (defScope s_Lread) := ⟨rfl, rfl, rfl, by decide +kernel, rfl, by decide +kernel, by decide +kernel⟩
abbrev s_Ldue : Stmt := top 35
theorem sc_Ldue : FnScope ["_law_parts", "_law_mask", "_law_bits", "_law_lines", "_law_line"] ["_law_parts", "_law_mask"] (defScope s_Ldue) := ⟨rfl, rfl, rfl, by decide +kernel, rfl, by decide +kernel, by decide +kernel⟩
abbrev s_Ldeed : Stmt := top 36
theorem sc_Ldeed : FnScope ["_law_pot_here", "_law_devices", "_law_parts", "_law_way", "_law_place", "_law_told_here", "_law_word", "_law_line", "_law_mask", "_law_due_here"] ["_law_pot_here", "_law_devices", "_law_parts"] (defScope s_Ldeed) := ⟨rfl, rfl, rfl, by decide +kernel, rfl, by decide +kernel, by decide +kernel⟩
abbrev s_Lright : Stmt := top 37
theorem sc_Lright : FnScope ["_law_pot_here", "_law_inputs", "_law_turn", "_law_devices", "_law_shown", "_law_parts", "_law_other"] ["_law_pot_here"] (defScope s_Lright) := ⟨rfl, rfl, rfl, by decide +kernel, rfl, by decide +kernel, by decide +kernel⟩
abbrev s_law : Stmt := top 38
theorem sc_law : FnScope ["_law_script"] ["_law_script"] (defScope s_law) := ⟨rfl, rfl, rfl, by decide +kernel, rfl, by decide +kernel, by decide +kernel⟩
structure Txt (K : PySem.W.Frag) (mg : Str → Option Value) where
  C_Devices : Addr
  cl_Devices : Cls K C_Devices
  g_Devices : mg "Devices" = some (.ref C_Devices)
  n_Devices_left : NoAttr K C_Devices "_left"
  n_Devices_outputs : NoAttr K C_Devices "_outputs"
  n_Devices_counted : NoAttr K C_Devices "_counted"
  n_Devices_timer : NoAttr K C_Devices "_timer"
  n_Devices_lines : NoAttr K C_Devices "_lines"
  f_is_integer : Addr
  fd_is_integer : FuncData
  F_is_integer : Fun K "is_integer" "is_integer" s_is_integer f_is_integer fd_is_integer
  g_is_integer : mg "is_integer" = some (.ref f_is_integer)
  b_is_integer : Binds K fd_is_integer ["value"] []
  f_is_between : Addr
  fd_is_between : FuncData
  F_is_between : Fun K "is_between" "is_between" s_is_between f_is_between fd_is_between
  g_is_between : mg "is_between" = some (.ref f_is_between)
  b_is_between : Binds K fd_is_between ["value", "least", "most"] []
  f_is_list : Addr
  fd_is_list : FuncData
  F_is_list : Fun K "is_list" "is_list" s_is_list f_is_list fd_is_list
  g_is_list : mg "is_list" = some (.ref f_is_list)
  b_is_list : Binds K fd_is_list ["value"] []
  f_is_word : Addr
  fd_is_word : FuncData
  F_is_word : Fun K "is_word" "is_word" s_is_word f_is_word fd_is_word
  g_is_word : mg "is_word" = some (.ref f_is_word)
  b_is_word : Binds K fd_is_word ["value"] []
  f_is_word_list : Addr
  fd_is_word_list : FuncData
  F_is_word_list : Fun K "is_word_list" "is_word_list" s_is_word_list f_is_word_list fd_is_word_list
  g_is_word_list : mg "is_word_list" = some (.ref f_is_word_list)
  b_is_word_list : Binds K fd_is_word_list ["value"] []
  f_need_word : Addr
  fd_need_word : FuncData
  F_need_word : Fun K "need_word" "need_word" s_need_word f_need_word fd_need_word
  g_need_word : mg "need_word" = some (.ref f_need_word)
  b_need_word : Binds K fd_need_word ["value"] []
  f_Devices_init : Addr
  fd_Devices_init : FuncData
  F_Devices_init : Fun K "__init__" "Devices.__init__" s_Devices_init f_Devices_init fd_Devices_init
  b_Devices_init : Binds K fd_Devices_init ["self", "inputs"] []
  mk_Devices : Mk K C_Devices f_Devices_init
  f_Devices_can : Addr
  fd_Devices_can : FuncData
  F_Devices_can : Fun K "can" "Devices.can" s_Devices_can f_Devices_can fd_Devices_can
  b_Devices_can : Binds K fd_Devices_can ["self", "place"] []
  me_Devices_can : Meth K C_Devices "can" f_Devices_can
  f_Devices_read : Addr
  fd_Devices_read : FuncData
  F_Devices_read : Fun K "read" "Devices.read" s_Devices_read f_Devices_read fd_Devices_read
  b_Devices_read : Binds K fd_Devices_read ["self", "place"] []
  kb_Devices_read : KBinds K fd_Devices_read ["self", "place"] ["place"] kwM kwM
  me_Devices_read : Meth K C_Devices "read" f_Devices_read
  f_Devices_write : Addr
  fd_Devices_write : FuncData
  F_Devices_write : Fun K "write" "Devices.write" s_Devices_write f_Devices_write fd_Devices_write
  b_Devices_write : Binds K fd_Devices_write ["self", "place", "word"] []
  kbr_Devices_write : KBinds K fd_Devices_write ["self", "place", "word"] ["word", "place"] kwR kwR
  me_Devices_write : Meth K C_Devices "write" f_Devices_write
  f_Devices_raised : Addr
  fd_Devices_raised : FuncData
  F_Devices_raised : Fun K "raised" "Devices.raised" s_Devices_raised f_Devices_raised fd_Devices_raised
  b_Devices_raised : Binds K fd_Devices_raised ["self", "line"] []
  me_Devices_raised : Meth K C_Devices "raised" f_Devices_raised
  f_Devices_counted : Addr
  fd_Devices_counted : FuncData
  F_Devices_counted : Fun K "counted" "Devices.counted" s_Devices_counted f_Devices_counted fd_Devices_counted
  b_Devices_counted : Binds K fd_Devices_counted ["self"] []
  me_Devices_counted : Meth K C_Devices "counted" f_Devices_counted
  f_Devices_due : Addr
  fd_Devices_due : FuncData
  F_Devices_due : Fun K "due" "Devices.due" s_Devices_due f_Devices_due fd_Devices_due
  b_Devices_due : Binds K fd_Devices_due ["self", "mask"] []
  kb_Devices_due : KBinds K fd_Devices_due ["self", "mask"] ["mask"] kwM kwM
  me_Devices_due : Meth K C_Devices "due" f_Devices_due
  f_Devices_lowered : Addr
  fd_Devices_lowered : FuncData
  F_Devices_lowered : Fun K "lowered" "Devices.lowered" s_Devices_lowered f_Devices_lowered fd_Devices_lowered
  b_Devices_lowered : Binds K fd_Devices_lowered ["self", "line"] []
  me_Devices_lowered : Meth K C_Devices "lowered" f_Devices_lowered
  f_Devices_outputs : Addr
  fd_Devices_outputs : FuncData
  F_Devices_outputs : Fun K "outputs" "Devices.outputs" s_Devices_outputs f_Devices_outputs fd_Devices_outputs
  b_Devices_outputs : Binds K fd_Devices_outputs ["self"] []
  me_Devices_outputs : Meth K C_Devices "outputs" f_Devices_outputs
  f_Devices_left : Addr
  fd_Devices_left : FuncData
  F_Devices_left : Fun K "left" "Devices.left" s_Devices_left f_Devices_left fd_Devices_left
  b_Devices_left : Binds K fd_Devices_left ["self"] []
  me_Devices_left : Meth K C_Devices "left" f_Devices_left
  f_Devices_steps : Addr
  fd_Devices_steps : FuncData
  F_Devices_steps : Fun K "steps" "Devices.steps" s_Devices_steps f_Devices_steps fd_Devices_steps
  b_Devices_steps : Binds K fd_Devices_steps ["self"] []
  pa_Devices_steps : Addr
  p_Devices_steps : PropOf K C_Devices "steps" pa_Devices_steps f_Devices_steps
  f_Devices_told : Addr
  fd_Devices_told : FuncData
  F_Devices_told : Fun K "told" "Devices.told" s_Devices_told f_Devices_told fd_Devices_told
  b_Devices_told : Binds K fd_Devices_told ["self"] []
  me_Devices_told : Meth K C_Devices "told" f_Devices_told
  f_Devices_copy : Addr
  fd_Devices_copy : FuncData
  F_Devices_copy : Fun K "copy" "Devices.copy" s_Devices_copy f_Devices_copy fd_Devices_copy
  b_Devices_copy : Binds K fd_Devices_copy ["self"] []
  me_Devices_copy : Meth K C_Devices "copy" f_Devices_copy
  f_Devices_eq : Addr
  fd_Devices_eq : FuncData
  F_Devices_eq : Fun K "__eq__" "Devices.__eq__" s_Devices_eq f_Devices_eq fd_Devices_eq
  b_Devices_eq : Binds K fd_Devices_eq ["self", "other"] []
  me_Devices_eq : Meth K C_Devices "__eq__" f_Devices_eq
  f_Devicesneed_there : Addr
  fd_Devicesneed_there : FuncData
  F_Devicesneed_there : Fun K "_need_there" "Devices._need_there" s_Devicesneed_there f_Devicesneed_there fd_Devicesneed_there
  b_Devicesneed_there : Binds K fd_Devicesneed_there ["self", "place"] []
  me_Devicesneed_there : Meth K C_Devices "_need_there" f_Devicesneed_there
  f_are_inputs : Addr
  fd_are_inputs : FuncData
  F_are_inputs : Fun K "are_inputs" "are_inputs" s_are_inputs f_are_inputs fd_are_inputs
  g_are_inputs : mg "are_inputs" = some (.ref f_are_inputs)
  b_are_inputs : Binds K fd_are_inputs ["value"] []
  f_is_line : Addr
  fd_is_line : FuncData
  F_is_line : Fun K "is_line" "is_line" s_is_line f_is_line fd_is_line
  g_is_line : mg "is_line" = some (.ref f_is_line)
  b_is_line : Binds K fd_is_line ["value"] []
  f_need_line : Addr
  fd_need_line : FuncData
  F_need_line : Fun K "need_line" "need_line" s_need_line f_need_line fd_need_line
  g_need_line : mg "need_line" = some (.ref f_need_line)
  b_need_line : Binds K fd_need_line ["value"] []
  f_Lpot : Addr
  fd_Lpot : FuncData
  F_Lpot : Fun K "_law_pot" "_law_pot" s_Lpot f_Lpot fd_Lpot
  g_Lpot : mg "_law_pot" = some (.ref f_Lpot)
  b_Lpot : Binds K fd_Lpot ["_law_script", "_law_k"] []
  f_Ldraw : Addr
  fd_Ldraw : FuncData
  F_Ldraw : Fun K "_law_draw" "_law_draw" s_Ldraw f_Ldraw fd_Ldraw
  g_Ldraw : mg "_law_draw" = some (.ref f_Ldraw)
  b_Ldraw : Binds K fd_Ldraw ["_law_pot_here", "_law_many"] []
  f_Lpick : Addr
  fd_Lpick : FuncData
  F_Lpick : Fun K "_law_pick" "_law_pick" s_Lpick f_Lpick fd_Lpick
  g_Lpick : mg "_law_pick" = some (.ref f_Lpick)
  b_Lpick : Binds K fd_Lpick ["_law_pot_here", "_law_some"] []
  f_Ltold : Addr
  fd_Ltold : FuncData
  F_Ltold : Fun K "_law_told" "_law_told" s_Ltold f_Ltold fd_Ltold
  g_Ltold : mg "_law_told" = some (.ref f_Ltold)
  b_Ltold : Binds K fd_Ltold ["_law_parts"] []
  f_Lread : Addr
  fd_Lread : FuncData
  F_Lread : Fun K "_law_read" "_law_read" s_Lread f_Lread fd_Lread
  g_Lread : mg "_law_read" = some (.ref f_Lread)
  b_Lread : Binds K fd_Lread ["_law_parts", "_law_place"] []
  f_Ldue : Addr
  fd_Ldue : FuncData
  F_Ldue : Fun K "_law_due" "_law_due" s_Ldue f_Ldue fd_Ldue
  g_Ldue : mg "_law_due" = some (.ref f_Ldue)
  b_Ldue : Binds K fd_Ldue ["_law_parts", "_law_mask"] []
  f_Ldeed : Addr
  fd_Ldeed : FuncData
  F_Ldeed : Fun K "_law_deed" "_law_deed" s_Ldeed f_Ldeed fd_Ldeed
  g_Ldeed : mg "_law_deed" = some (.ref f_Ldeed)
  b_Ldeed : Binds K fd_Ldeed ["_law_pot_here", "_law_devices", "_law_parts"] []
  f_Lright : Addr
  fd_Lright : FuncData
  F_Lright : Fun K "_law_right" "_law_right" s_Lright f_Lright fd_Lright
  g_Lright : mg "_law_right" = some (.ref f_Lright)
  b_Lright : Binds K fd_Lright ["_law_pot_here"] []
  f_law : Addr
  fd_law : FuncData
  F_law : Fun K "law" "law" s_law f_law fd_law
  g_law : mg "law" = some (.ref f_law)
  b_law : Binds K fd_law ["_law_script"] []
  m_abs : mg "abs" = none
  m_all : mg "all" = none
  m_bool : mg "bool" = none
  m_divmod : mg "divmod" = none
  m_int : mg "int" = none
  m_isinstance : mg "isinstance" = none
  m_len : mg "len" = none
  m_list : mg "list" = none
  m_max : mg "max" = none
  m_range : mg "range" = none
  m_repr : mg "repr" = none
  m_tuple : mg "tuple" = none
  c_WORDS : ∃ t, mg "WORDS" = some (.int 65536 t)
  c__INPUT_OUTPUT : ∃ t, mg "_INPUT_OUTPUT" = some (.int 960 t)
  c__LEFT : ∃ t, mg "_LEFT" = some (.int 961 t)
  c__STEPS : ∃ t, mg "_STEPS" = some (.int 976 t)
  c__TIMER : ∃ t, mg "_TIMER" = some (.int 977 t)
  c__LINES : ∃ t, mg "_LINES" = some (.int 4 t)
  c__TIMER_LINE : ∃ t, mg "_TIMER_LINE" = some (.int 0 t)
  c__MOST_INPUTS : ∃ t, mg "_MOST_INPUTS" = some (.int 40 t)
  ic_Devices : PySem.W.findIn K (.ref C_Devices) "__class__" = some (some (.builtin "object.__class__"))
  in_Devices : PySem.W.specialIn K (.builtin "object.__class__") "__get__" = some (some (.builtin "getset_descriptor.__get__"))
  it_Devices : PySem.W.takesIn K (.builtin "object.__class__") = some true
  im_Devices : PySem.W.mroIn K C_Devices (.type "object") = some true
end K32

set_option Elab.async false
set_option linter.all false
set_option maxRecDepth 100000
set_option maxHeartbeats 8000000

namespace K32
open PySem PySem.Spec PyProof.Rows L2 Hx 
local macro_rules | `(tactic| walk_at "sm") => `(tactic| repeat' (first | assumption | apply Hx.Same.upd | exact L2.Same.refl _ | apply same_trans'))
local macro_rules | `(tactic| walk_at "hp") => `(tactic| repeat' (first | assumption | exact upd_same | apply old_upd | apply same_at))
local macro_rules | `(tactic| walk_at "rd") => `(tactic| repeat' (first | rfl | apply Exists.intro | apply And.intro | refine iteT ?_ | refine iteF ?_ | exact upd_same | exact SqL.of (by assumption) | exact SqL.of upd_same | exact SqT.of upd_same | exact SqT.of (by assumption) | ((with_reducible show (_ : Int) < _); omega) | ((with_reducible show (_ : Int) ≤ _); omega) | (show (_ : Prop); assumption) | exact Or.inl ⟨_, by assumption, rfl⟩ | exact Or.inl ⟨rfl, _, SqL.of (by assumption)⟩ | exact Or.inl ⟨rfl, _, SqL.of upd_same⟩ | apply old_upd | apply Hx.SqL.new | apply tyl_new | apply Pot.new | exact same_at (by assumption) (by assumption) | exact Or.inl (SqL.of (by assumption)) | exact Or.inl (by assumption) | exact Or.inl (SqL.of upd_same) | exact size_le (Nat.le_of_ble_eq_true rfl) | exact Nat.le_of_ble_eq_true rfl | exact True.intro | exact Or.inl rfl | exact Or.inr rfl | (show (_ : Prop); omega) | (show (_ : Prop); dsimp only; omega) | exact mulw64 (by omega) (by omega) | exact mulw64 (by (try dsimp only); omega) (by (try dsimp only); omega)))

section
variable {P : Program} {w : World} {K : PySem.W.Frag} {mg : Str → Option Value} {base : Heap}
/-- a value of any plain kind -/
def intV : V → Bool
  | .int _ => true
  | _ => false
def sp_is_integer : Sp := fun vs H Q _ => ∃ i : Int, vs = [.int i] ∧ Q (.bl true) H
theorem ok_is_integer (T : Txt K mg) : FnOk P w K mg base CX0 1 T.f_is_integer T.fd_is_integer ["value"] (sp_is_integer) := by
  refine T.F_is_integer.ok sc_is_integer (fun vs H Q E h => ?_) (fun cdv A outer s H vs Q E hr h => ?_)
  · obtain ⟨i, rfl, k⟩ := h; rfl
  · obtain ⟨i, rfl, k⟩ := h
    refine ⟨_, (pss_one (ps_ret (pe_and (pe_callB call_isi (by rfl) T.m_isinstance (by decide +kernel) (pa_cons (pv 0) (pa_cons (pe_bltn (v := .ty "int") (u := .type "int") (by rfl) T.m_int (by decide +kernel) rfl) pa_nil))) (pe_one (pe_not (pe_callB call_isi (by rfl) T.m_isinstance (by decide +kernel) (pa_cons (pv 0) (pa_cons (pe_bltn (v := .ty "bool") (u := .type "bool") (by rfl) T.m_bool (by decide +kernel) rfl) pa_nil)))))))), ?_⟩
    clear hr
    refine ⟨_, rfl, _, _, _, _, true, rfl, .ty _, .base (.int _), kit_ty (by decide +kernel), true, rfl, iteT ?_⟩
    refine ⟨_, rfl, _, _, _, _, false, rfl, .ty _, .base (.int _), kit_ty (by decide +kernel), false, rfl, k⟩
def sp_is_between : Sp := fun vs H Q _ => ∃ i a b : Int, vs = [.int i, .int a, .int b] ∧ Q (.bl (decide (a ≤ i ∧ i ≤ b))) H
theorem ok_is_between (T : Txt K mg) : FnOk P w K mg base CX0 2 T.f_is_between T.fd_is_between ["value", "least", "most"] (sp_is_between) := by
  have G_is_integer := ok_is_integer (P := P) (w := w) (base := base) T
  refine T.F_is_between.ok sc_is_between (fun vs H Q E h => ?_) (fun cdv A outer s H vs Q E hr h => ?_)
  · obtain ⟨i, a, b, rfl, k⟩ := h; rfl
  · obtain ⟨i, a, b, rfl, k⟩ := h
    refine ⟨_, (pss_one (ps_ret (pe_and (pe_call G_is_integer (hr.mono (by decide)) rfl T.g_is_integer T.F_is_integer.kp T.b_is_integer .nil pass0 (pa_cons (pv 0) pa_nil)) (pe_one (pe_chain op_le op_le (pv 1) (pv 0) (pv 2)))))), ?_⟩
    clear G_is_integer
    clear hr
    walk_at "rd"
    refine iteD (fun h1 => ?_) (fun h1 => ?_)
    · walk_at "rd"; exact qbl k (by simp [h1])
    · exact qbl k (by simp [h1])
def Sq (K : PySem.W.Frag) (H : Hp) (a : Addr) (xs : List V) : Prop := H a = some (.lst xs) ∨ H a = some (.tup xs)
theorem Sq.same {K : PySem.W.Frag} {H H' : Hp} {a : Addr} {xs : List V} (s : Same H H') (h : Sq K H a xs) : Sq K H' a xs := h.imp (s _ _) (s _ _)
theorem Sq.or {K : PySem.W.Frag} {H : Hp} {a : Addr} {xs : List V} (h : Sq K H a xs) : SqL K H a xs ∨ SqT K H a xs := h.imp SqL.of SqT.of
def sp_is_list (K : PySem.W.Frag) : Sp := fun vs H Q _ => ∃ (a : Addr) (xs : List V), vs = [.ref a] ∧ Sq K H a xs ∧ ∀ H', Same H H' → Q (.bl true) H'
theorem ok_is_list (T : Txt K mg) : FnOk P w K mg base CX0 1 T.f_is_list T.fd_is_list ["value"] (sp_is_list K) := by
  refine T.F_is_list.ok sc_is_list (fun vs H Q E h => ?_) (fun cdv A outer s H vs Q E hr h => ?_)
  · obtain ⟨a, xs, rfl, hs, k⟩ := h; rfl
  · obtain ⟨a, xs, rfl, hs, k⟩ := h
    refine ⟨_, (pss_one (ps_ret (pe_callB call_isiT (by rfl) T.m_isinstance (by decide +kernel) (pa_cons (pv 0) (pa_cons (pe_tup (pa_cons (pe_bltn (v := .ty "list") (u := .type "list") (by rfl) T.m_list (by decide +kernel) rfl) (pa_cons (pe_bltn (v := .ty "tuple") (u := .type "tuple") (by rfl) T.m_tuple (by decide +kernel) rfl) pa_nil))) pa_nil))))), ?_⟩
    clear hr
    walk_at "rd"
    intro tp htp
    rcases hs with h | h
    · exact ⟨_, _, [.ty "list", .ty "tuple"], _, _, true, rfl, upd_same, .cons (.ty _) (.cons (.ty _) .nil), .base (.lst (old_upd htp h)), kitAny_cons (kit_ty (b := "list") (r := true) (by decide +kernel)) (fun z => nomatch z) (fun _ => rfl), k _ (same_upd htp)⟩
    · exact ⟨_, _, [.ty "list", .ty "tuple"], _, _, true, rfl, upd_same, .cons (.ty _) (.cons (.ty _) .nil), .base (.tup (old_upd htp h)), kitAny_cons (kit_ty (b := "list") (r := false) (by decide +kernel)) (fun _ => kitAny_cons (kit_ty (b := "tuple") (r := true) (by decide +kernel)) (fun z => nomatch z) (fun _ => rfl)) (fun z => nomatch z), k _ (same_upd htp)⟩
def sp_is_word : Sp := fun vs H Q _ => ∃ i : Int, vs = [.int i] ∧ (0 ≤ i ∧ i < 65536) ∧ Q (.bl true) H
theorem ok_is_word (T : Txt K mg) : FnOk P w K mg base CX0 3 T.f_is_word T.fd_is_word ["value"] (sp_is_word) := by
  have G_is_between := ok_is_between (P := P) (w := w) (base := base) T
  refine T.F_is_word.ok sc_is_word (fun vs H Q E h => ?_) (fun cdv A outer s H vs Q E hr h => ?_)
  · obtain ⟨i, rfl, hi, k⟩ := h; rfl
  · obtain ⟨i, rfl, hi, k⟩ := h
    refine ⟨_, (pss_one (ps_ret (pe_call G_is_between (hr.mono (by decide)) rfl T.g_is_between T.F_is_between.kp T.b_is_between .nil pass0 (pa_cons (pv 0) (pa_cons pe_int (pa_cons (pe_op op_sub (pe_gint rfl T.c_WORDS) pe_int) pa_nil)))))), ?_⟩
    clear G_is_between
    clear hr
    walk_at "rd"
    exact qbl k (decide_eq_true (by omega))
def sp_is_word_list (K : PySem.W.Frag) : Sp := fun vs H Q _ => ∃ (a : Addr) (ns : List Int), vs = [.ref a] ∧ H a = some (.lst (ns.map V.int)) ∧ ns.length ≤ 40 ∧ (∀ n ∈ ns, 0 ≤ n ∧ n < 65536) ∧ ∀ H', Same H H' → Q (.bl true) H'
theorem all_true (n : Nat) : (List.replicate n true).all id = true := by induction n <;> simp
theorem ok_is_word_list (T : Txt K mg) : FnOk P w K mg base CX0 4 T.f_is_word_list T.fd_is_word_list ["value"] (sp_is_word_list K) := by
  have G_is_word := ok_is_word (P := P) (w := w) (base := base) T
  have G_is_list := ok_is_list (P := P) (w := w) (base := base) T
  refine T.F_is_word_list.ok sc_is_word_list (fun vs H Q E h => ?_) (fun cdv A outer s H vs Q E hr h => ?_)
  · obtain ⟨a, ns, rfl, hs, hl, hn, k⟩ := h; rfl
  · obtain ⟨a, ns, rfl, hs, hl, hn, k⟩ := h
    refine ⟨_, (pss_one (ps_ret (pe_and (pe_call G_is_list (hr.mono (by decide)) rfl T.g_is_list T.F_is_list.kp T.b_is_list .nil pass0 (pa_cons (pv 0) pa_nil)) (pe_one (pe_callB (cr_all rfl) (by rfl) T.m_all (by decide +kernel) (pa_cons (pe_lc (own := [("one", 1)]) (g := gName 1) (tt := tYes) rfl sc_is_word_list.nd (pi_list (pv 0)) (blkOk_by (N := ["value", "one"]) (sc := defScope s_is_word_list) (by decide +kernel)) (fun _ _ _ _ _ => pg_name (i := 1) sc_is_word_list.nd rfl (Or.inl rfl)) (fun _ _ _ _ _ => pts_nil) (fun _ _ _ _ _ => (pe_call G_is_word (hr.mono (by decide)) rfl T.g_is_word T.F_is_word.kp T.b_is_word .nil pass0 (pa_cons (pv 1) pa_nil)))) pa_nil)))))), ?_⟩
    clear G_is_word G_is_list
    clear hr
    have hq : Sq K H a (ns.map V.int) := .inl hs
    walk_at "rd"
    intro H1 s1
    have h1 := s1 _ _ hs
    have hL : SqL K H1 a (ns.map V.int) := SqL.of h1
    walk_at "rd"
    intro D hD
    refine lc_mapS (xs := ns.map V.int) ((List.replicate ns.length true).map V.bl) hL hD (by simp) (by simp; omega) (fun i x y H' Q' hx hy s kq => ?_) (fun H2 s2 e2 => ?_)
    · obtain ⟨z, rfl, hz⟩ := int_get hx
      have hw := hn z (List.mem_of_getElem? hz)
      rw [List.map_replicate] at hy
      obtain rfl := List.eq_of_mem_replicate (List.mem_of_getElem? hy)
      walk_at "rd"
      exact kq _ (L2.Same.refl _)
    · walk_at "rd"
      exact qbl (k H2 (L2.Same.trans s1 s2)) (all_true _)
def sp_need_word : Sp := fun vs H Q _ => ∃ i : Int, vs = [.int i] ∧ (0 ≤ i ∧ i < 65536) ∧ Q .non H
theorem ok_need_word (T : Txt K mg) : FnOk P w K mg base CX0 4 T.f_need_word T.fd_need_word ["value"] (sp_need_word) := by
  have G_is_word := ok_is_word (P := P) (w := w) (base := base) T
  refine T.F_need_word.ok sc_need_word (fun vs H Q E h => ?_) (fun cdv A outer s H vs Q E hr h => ?_)
  · obtain ⟨i, rfl, hi, k⟩ := h; rfl
  · obtain ⟨i, rfl, hi, k⟩ := h
    refine ⟨_, (pss_one (ps_if (pt_not (pt_val (pe_call G_is_word (hr.mono (by decide)) rfl T.g_is_word T.F_is_word.kp T.b_is_word .nil pass0 (pa_cons (pv 0) pa_nil))))
          (pss_one ps_never)
          pss_nil)), ?_⟩
    clear G_is_word
    clear hr
    walk_at "rd"
def sp_are_inputs (K : PySem.W.Frag) : Sp := fun vs H Q _ => ∃ (a : Addr) (ns : List Int), vs = [.ref a] ∧ H a = some (.lst (ns.map V.int)) ∧ ns.length ≤ 40 ∧ (∀ n ∈ ns, 0 ≤ n ∧ n < 65536) ∧ ∀ H', Same H H' → Q (.bl true) H'
theorem ok_are_inputs (T : Txt K mg) : FnOk P w K mg base CX0 5 T.f_are_inputs T.fd_are_inputs ["value"] (sp_are_inputs K) := by
  have G_is_word_list := ok_is_word_list (P := P) (w := w) (base := base) T
  have G_is_list := ok_is_list (P := P) (w := w) (base := base) T
  refine T.F_are_inputs.ok sc_are_inputs (fun vs H Q E h => ?_) (fun cdv A outer s H vs Q E hr h => ?_)
  · obtain ⟨a, ns, rfl, ha, hl, hn, k⟩ := h; rfl
  · obtain ⟨a, ns, rfl, ha, hl, hn, k⟩ := h
    refine ⟨_, (pss_one (ps_ret (pe_and (pe_call G_is_list (hr.mono (by decide)) rfl T.g_is_list T.F_is_list.kp T.b_is_list .nil pass0 (pa_cons (pv 0) pa_nil)) (pe_and (pe_cmpR op_le (pe_callB call_len_list (by rfl) T.m_len (by decide +kernel) (pa_cons (pv 0) pa_nil)) (pe_gint rfl T.c__MOST_INPUTS) (nomark _)) (pe_one (pe_call G_is_word_list (hr.mono (by decide)) rfl T.g_is_word_list T.F_is_word_list.kp T.b_is_word_list .nil pass0 (pa_cons (pv 0) pa_nil))))))), ?_⟩
    clear G_is_word_list G_is_list
    clear hr
    have hq : Sq K H a (ns.map V.int) := .inl ha
    walk_at "rd"
    intro H1 s1
    have ha1 := s1 _ _ ha
    walk_at "rd"
    refine iteD (fun _ => ?_) (fun h => absurd (by simp; omega) h)
    walk_at "rd"
    intro H2 s2
    have q := k _ (L2.Same.trans s1 s2)
    walk_at "rd"
def sp_is_line : Sp := fun vs H Q _ => ∃ i : Nat, vs = [.int (i : Int)] ∧ i < 4 ∧ Q (.bl true) H
theorem ok_is_line (T : Txt K mg) : FnOk P w K mg base CX0 3 T.f_is_line T.fd_is_line ["value"] (sp_is_line) := by
  have G_is_between := ok_is_between (P := P) (w := w) (base := base) T
  refine T.F_is_line.ok sc_is_line (fun vs H Q E h => ?_) (fun cdv A outer s H vs Q E hr h => ?_)
  · obtain ⟨i, rfl, hi, k⟩ := h; rfl
  · obtain ⟨i, rfl, hi, k⟩ := h
    refine ⟨_, (pss_one (ps_ret (pe_call G_is_between (hr.mono (by decide)) rfl T.g_is_between T.F_is_between.kp T.b_is_between .nil pass0 (pa_cons (pv 0) (pa_cons pe_int (pa_cons (pe_op op_sub (pe_gint rfl T.c__LINES) pe_int) pa_nil)))))), ?_⟩
    clear G_is_between
    clear hr
    walk_at "rd"
    exact qbl k (decide_eq_true (by omega))
def sp_need_line : Sp := fun vs H Q _ => ∃ i : Nat, vs = [.int (i : Int)] ∧ i < 4 ∧ Q .non H
theorem ok_need_line (T : Txt K mg) : FnOk P w K mg base CX0 4 T.f_need_line T.fd_need_line ["value"] (sp_need_line) := by
  have G_is_line := ok_is_line (P := P) (w := w) (base := base) T
  refine T.F_need_line.ok sc_need_line (fun vs H Q E h => ?_) (fun cdv A outer s H vs Q E hr h => ?_)
  · obtain ⟨i, rfl, hi, k⟩ := h; rfl
  · obtain ⟨i, rfl, hi, k⟩ := h
    refine ⟨_, (pss_one (ps_if (pt_not (pt_val (pe_call G_is_line (hr.mono (by decide)) rfl T.g_is_line T.F_is_line.kp T.b_is_line .nil pass0 (pa_cons (pv 0) pa_nil))))
          (pss_one ps_never)
          pss_nil)), ?_⟩
    clear G_is_line
    clear hr
    walk_at "rd"
/-- a place of a device -/
def Plc (i : Int) : Prop := i = 960 ∨ i = 961 ∨ i = 976 ∨ i = 977
def sp_can : Sp := fun vs H Q _ => ∃ (a : Addr) (i : Int), vs = [.ref a, .int i] ∧ Plc i ∧ ∀ H', Same H H' → Q (.bl true) H'
theorem ok_Devices_can (T : Txt K mg) : FnOk P w K mg base CX0 1 T.f_Devices_can T.fd_Devices_can ["self", "place"] (sp_can) := by
  refine T.F_Devices_can.ok sc_Devices_can (fun vs H Q E h => ?_) (fun cdv A outer s H vs Q E hr h => ?_)
  · obtain ⟨a, i, rfl, hi, k⟩ := h; rfl
  · obtain ⟨a, i, rfl, hi, k⟩ := h
    refine ⟨_, (pss_one (ps_ret (pe_cmpR op_in_seq (pv 1) (pe_tup (pa_cons (pe_gint rfl T.c__INPUT_OUTPUT) (pa_cons (pe_gint rfl T.c__LEFT) (pa_cons (pe_gint rfl T.c__STEPS) (pa_cons (pe_gint rfl T.c__TIMER) pa_nil))))) (by rfl)))), ?_⟩
    clear hr
    walk_at "rd"
    intro p hp
    walk_at "rd"
    · exact Or.inr (SqT.of upd_same)
    walk_at "rd"
    exact qbl (k _ (same_upd hp)) (by rcases hi with rfl | rfl | rfl | rfl <;> rfl)
def sp_there (C : Addr) : Sp := fun vs H Q _ => ∃ (a dx : Addr) (fs : List (Str × V)) (i : Int), vs = [.ref a, .int i] ∧ H a = some (.ins C dx fs) ∧ fs.lookup ("can" : Str) = none ∧ Plc i ∧ ∀ H', Same H H' → Q .non H'
theorem ok_Devicesneed_there (T : Txt K mg) : FnOk P w K mg base CX0 2 T.f_Devicesneed_there T.fd_Devicesneed_there ["self", "place"] (sp_there T.C_Devices) := by
  have G_Devices_can := ok_Devices_can (P := P) (w := w) (base := base) T
  refine T.F_Devicesneed_there.ok sc_Devicesneed_there (fun vs H Q E h => ?_) (fun cdv A outer s H vs Q E hr h => ?_)
  · obtain ⟨a, dx, fs, i, rfl, ha, hf, hi, k⟩ := h; rfl
  · obtain ⟨a, dx, fs, i, rfl, ha, hf, hi, k⟩ := h
    refine ⟨_, (pss_one (ps_if (pt_not (pt_val (pe_meth (pv 0) T.cl_Devices T.me_Devices_can G_Devices_can (hr.mono (by decide)) T.b_Devices_can .nil pass0 (pa_cons (pv 1) pa_nil))))
          (pss_one ps_never)
          pss_nil)), ?_⟩
    clear G_Devices_can
    clear hr
    walk_at "rd"
    intro H1 s1
    walk_at "rd"
    exact k H1 s1
structure Dev where
  left : List Int
  outs : List Int
  n : Int
  tm : Int
  ln : List Bool
abbrev F5 (l o : Addr) (n t : Int) (g : Addr) : List (Str × V) := [("_left", .ref l), ("_outputs", .ref o), ("_counted", .int n), ("_timer", .int t), ("_lines", .ref g)]
theorem pf1 (l : Addr) : putF "_left" (.ref l) [] = ([("_left", .ref l)] : List (Str × V)) := rfl
theorem pf2 (l o : Addr) : putF "_outputs" (.ref o) [("_left", .ref l)] = ([("_left", .ref l), ("_outputs", .ref o)] : List (Str × V)) := rfl
theorem pf3 (l o : Addr) (n : Int) : putF "_counted" (.int n) [("_left", .ref l), ("_outputs", .ref o)] = ([("_left", .ref l), ("_outputs", .ref o), ("_counted", .int n)] : List (Str × V)) := rfl
theorem pf4 (l o : Addr) (n t : Int) : putF "_timer" (.int t) [("_left", .ref l), ("_outputs", .ref o), ("_counted", .int n)] = ([("_left", .ref l), ("_outputs", .ref o), ("_counted", .int n), ("_timer", .int t)] : List (Str × V)) := rfl
theorem pf5 (l o : Addr) (n t : Int) (g : Addr) : putF "_lines" (.ref g) [("_left", .ref l), ("_outputs", .ref o), ("_counted", .int n), ("_timer", .int t)] = F5 l o n t g := rfl
theorem pu2 (l o o' : Addr) (n t : Int) (g : Addr) : putF "_outputs" (.ref o') (F5 l o n t g) = F5 l o' n t g := rfl
theorem pu3 (l o : Addr) (n n' t : Int) (g : Addr) : putF "_counted" (.int n') (F5 l o n t g) = F5 l o n' t g := rfl
theorem pu4 (l o : Addr) (n t t' : Int) (g : Addr) : putF "_timer" (.int t') (F5 l o n t g) = F5 l o n t' g := rfl
theorem pu5 (l o : Addr) (n t : Int) (g g' : Addr) : putF "_lines" (.ref g') (F5 l o n t g) = F5 l o n t g' := rfl
theorem gt1 (l o : Addr) (n t : Int) (g : Addr) : (F5 l o n t g).lookup ("_left" : Str) = some (.ref l) := rfl
theorem gt2 (l o : Addr) (n t : Int) (g : Addr) : (F5 l o n t g).lookup ("_outputs" : Str) = some (.ref o) := rfl
theorem gt3 (l o : Addr) (n t : Int) (g : Addr) : (F5 l o n t g).lookup ("_counted" : Str) = some (.int n) := rfl
theorem gt4 (l o : Addr) (n t : Int) (g : Addr) : (F5 l o n t g).lookup ("_timer" : Str) = some (.int t) := rfl
theorem gt5 (l o : Addr) (n t : Int) (g : Addr) : (F5 l o n t g).lookup ("_lines" : Str) = some (.ref g) := rfl
/-- devices stand at x, their lists at l, o, g -/
structure DevAt (C : Addr) (H : Hp) (x l o g : Addr) (d : Dev) : Prop where
  ob : ∃ dx, H x = some (.ins C dx (F5 l o d.n d.tm g))
  lf : H l = some (.lst (d.left.map V.int))
  ou : H o = some (.lst (d.outs.map V.int))
  li : H g = some (.lst (d.ln.map V.bl))
  lo : l ≠ o
  lg : l ≠ g
  og : o ≠ g
  ll : d.left.length ≤ 40
  ol : d.outs.length ≤ 100
  gl : d.ln.length = 4
  wl : ∀ z ∈ d.left, 0 ≤ z ∧ z < 65536
  nb : 0 ≤ d.n ∧ d.n < 1000
  tb : 0 ≤ d.tm ∧ d.tm < 65536
def d0 (ns : List Int) : Dev := ⟨ns, [], 0, 0, [false, false, false, false]⟩
/-- but for F all is as it was -/
def Out (F : List Addr) (H H' : Hp) : Prop := ∀ b u, b ∉ F → H b = some u → H' b = some u
def sp_init (C : Addr) : Sp := fun vs H Q _ => ∃ (x dx a : Addr) (ns : List Int), vs = [.ref x, .ref a] ∧ H x = some (.ins C dx []) ∧ H a = some (.lst (ns.map V.int)) ∧ ns.length ≤ 40 ∧ (∀ n ∈ ns, 0 ≤ n ∧ n < 65536) ∧
  ∀ (l o g : Addr) (H' : Hp), H l = none → H o = none → H g = none → DevAt C H' x l o g (d0 ns) → But x H H' → Q .non H'
theorem ok_Devices_init (T : Txt K mg) : FnOk P w K mg base CX0 6 T.f_Devices_init T.fd_Devices_init ["self", "inputs"] (sp_init T.C_Devices) := by
  have G_are_inputs := ok_are_inputs (P := P) (w := w) (base := base) T
  refine T.F_Devices_init.ok sc_Devices_init (fun vs H Q E h => ?_) (fun cdv A outer s H vs Q E hr h => ?_)
  · obtain ⟨x, dx, a, ns, rfl, hx, ha, hl, hn, k⟩ := h; rfl
  · obtain ⟨x, dx, a, ns, rfl, hx, ha, hl, hn, k⟩ := h
    refine ⟨_, (pss_cons (ps_if (pt_not (pt_val (pe_call G_are_inputs (hr.mono (by decide)) rfl T.g_are_inputs T.F_are_inputs.kp T.b_are_inputs .nil pass0 (pa_cons (pv 1) pa_nil))))
          (pss_one ps_never)
          pss_nil)
        (pss_cons (ps_stop (ps_fld (pv 0) (pe_callTy call_list_of (by rfl) T.m_list (by decide +kernel) (pa_cons (pv 1) pa_nil)) rfl))
        (pss_cons (ps_stop (ps_fld (pv 0) (pe_lst pa_nil) rfl))
        (pss_cons (ps_stop (ps_fld (pv 0) pe_int rfl))
        (pss_cons (ps_stop (ps_fld (pv 0) pe_int rfl))
        (pss_one (ps_stop (ps_fld (pv 0) (pe_op op_rep (pe_lst (pa_cons pe_bl pa_nil)) (pe_gint rfl T.c__LINES)) rfl)))))))), ?_⟩
    clear G_are_inputs
    clear hr
    have c1 := T.cl_Devices
    have n1 := T.n_Devices_left
    have n2 := T.n_Devices_outputs
    have n3 := T.n_Devices_counted
    have n4 := T.n_Devices_timer
    have n5 := T.n_Devices_lines
    walk_at "rd"
    intro H2 s2
    have s1 : Same H H := L2.Same.refl _
    have ha2 := s2 _ _ ha
    have hx2 := s2 _ _ hx
    walk_at "rd"
    intro l fl
    have lx : l ≠ x := Ne.symm (ne_of_none hx2 fl)
    walk_at "rd"
    refine ⟨?_⟩
    rw [pf1]
    walk_at "rd"
    intro o fo
    have ox : o ≠ x := fun z => by rw [z, upd_same] at fo; cases fo
    have ol : o ≠ l := fun z => by rw [z, upd_ne lx, upd_same] at fo; cases fo
    have fo2 : H2 o = none := by rw [upd_ne ox, upd_ne ol] at fo; exact fo
    walk_at "rd"
    refine ⟨?_⟩
    rw [pf2]
    walk_at "rd"
    refine ⟨?_⟩
    rw [pf3]
    walk_at "rd"
    refine ⟨?_⟩
    rw [pf4]
    walk_at "rd"
    intro t ft
    have ft0 := ft
    have tx : t ≠ x := fun z => by rw [z, upd_same] at ft; cases ft
    walk_at "rd"
    intro g fg
    have fg0 := fg
    have gx : g ≠ x := fun z => by rw [z, upd_ne (Ne.symm tx), upd_same] at fg; cases fg
    have gt : g ≠ t := fun z => by rw [z, upd_same] at fg; cases fg
    rw [upd_ne gt, upd_ne gx, upd_ne gx, upd_ne gx] at fg
    have go : g ≠ o := fun z => by rw [z, upd_same] at fg; cases fg
    rw [upd_ne go, upd_ne gx] at fg
    have gl : g ≠ l := fun z => by rw [z, upd_same] at fg; cases fg
    rw [upd_ne gl] at fg
    rw [upd_ne tx, upd_ne tx, upd_ne tx] at ft
    have to : t ≠ o := fun z => by rw [z, upd_same] at ft; cases ft
    rw [upd_ne to, upd_ne tx] at ft
    have tl : t ≠ l := fun z => by rw [z, upd_same] at ft; cases ft
    rw [upd_ne tl] at ft
    walk_at "rd"
    refine ⟨?_⟩
    rw [pf5]
    have s12 := L2.Same.trans s1 s2
    refine k l o g _ (s12.free fl) (s12.free fo2) (s12.free fg) ⟨⟨dx, upd_same⟩, ?_, ?_, ?_, Ne.symm ol, Ne.symm gl, Ne.symm go, hl, Nat.zero_le _, rfl, hn, ⟨Int.le_refl _, Int.lt_of_le_of_lt (Int.le_refl 0) (by decide)⟩, ⟨Int.le_refl _, Int.lt_of_le_of_lt (Int.le_refl 0) (by decide)⟩⟩ (fun b u nb hb => ?_)
    · rw [upd_ne lx, upd_ne (Ne.symm gl), upd_ne (Ne.symm tl), upd_ne lx, upd_ne lx, upd_ne lx, upd_ne (Ne.symm ol), upd_ne lx]; exact upd_same
    · rw [upd_ne ox, upd_ne (Ne.symm go), upd_ne (Ne.symm to), upd_ne ox, upd_ne ox, upd_ne ox]; exact upd_same
    · rw [upd_ne gx]; exact upd_same
    · have hb2 := s12 _ _ hb
      have e1 := ne_of_none hb2 fl
      have e2 := ne_of_none hb2 fo2
      have e3 := ne_of_none hb2 fg
      have e4 := ne_of_none hb2 ft
      rw [upd_ne nb, upd_ne e3, upd_ne e4, upd_ne nb, upd_ne nb, upd_ne nb, upd_ne e2, upd_ne nb, upd_ne e1]; exact hb2
theorem DevAt.same {C : Addr} {H H' : Hp} {x l o g : Addr} {d : Dev} (h : DevAt C H x l o g d) (s : Same H H') : DevAt C H' x l o g d := by
  obtain ⟨dx, e⟩ := h.ob
  exact ⟨⟨dx, s _ _ e⟩, s _ _ h.lf, s _ _ h.ou, s _ _ h.li, h.lo, h.lg, h.og, h.ll, h.ol, h.gl, h.wl, h.nb, h.tb⟩
theorem DevAt.xl {C : Addr} {H : Hp} {x l o g : Addr} {d : Dev} (h : DevAt C H x l o g d) : l ≠ x ∧ o ≠ x ∧ g ≠ x := by
  obtain ⟨dx, e⟩ := h.ob
  refine ⟨fun z => ?_, fun z => ?_, fun z => ?_⟩
  · have := h.lf; rw [z, e] at this; cases this
  · have := h.ou; rw [z, e] at this; cases this
  · have := h.li; rw [z, e] at this; cases this
def rdV (d : Dev) (i : Int) : Int := if i = 960 then d.left.headD 0 else if i = 961 then (d.left.length : Int) else if i = 976 then d.n else d.tm
def rdN (d : Dev) (i : Int) : Dev := if i = 960 then { d with left := d.left.tail } else d
theorem Out.same {F : List Addr} {H H' : Hp} (s : Same H H') : Out F H H' := fun b u _ h => s b u h
theorem Out.set {F : List Addr} {H H' : Hp} {a : Addr} {u : HO} (s : Same H H') (h : a ∈ F) : Out F H (upd H' a u) := fun b v n e => by rw [upd_ne (fun z => n (by rw [z]; exact h))]; exact s _ _ e
def sp_read (C : Addr) : Sp := fun vs H Q _ => ∃ (x l o g : Addr) (d : Dev) (i : Int), vs = [.ref x, .int i] ∧ DevAt C H x l o g d ∧ Plc i ∧ ∀ H', DevAt C H' x l o g (rdN d i) → Out [x, l, o, g] H H' → Q (.int (rdV d i)) H'
theorem ok_Devices_read (T : Txt K mg) : FnOk P w K mg base CX0 3 T.f_Devices_read T.fd_Devices_read ["self", "place"] (sp_read T.C_Devices) := by
  have G_Devicesneed_there := ok_Devicesneed_there (P := P) (w := w) (base := base) T
  refine T.F_Devices_read.ok sc_Devices_read (fun vs H Q E h => ?_) (fun cdv A outer s H vs Q E hr h => ?_)
  · obtain ⟨x, l, o, g, d, i, rfl, hd, hi, k⟩ := h; rfl
  · obtain ⟨x, l, o, g, d, i, rfl, hd, hi, k⟩ := h
    refine ⟨_, (pss_cons (ps_expr (pe_meth (pv 0) T.cl_Devices T.me_Devicesneed_there G_Devicesneed_there (hr.mono (by decide)) T.b_Devicesneed_there .nil pass0 (pa_cons (pv 1) pa_nil)))
        (pss_cons (ps_if (pt_cmpR op_eq (pv 1) (pe_gint rfl T.c__INPUT_OUTPUT) (nomark _))
          (pss_one (ps_ret (pe_ifExp (pt_truth (pe_fld (pv 0) rfl) (by intro _; rfl)) (pe_bm PySem.F.plainAttrs_list PySem.F.slot_list_pop PySem.F.type_list_pop mt_popAt (pe_fld (pv 0) rfl) (pa_cons pe_int pa_nil)) pe_int)))
          pss_nil)
        (pss_cons (ps_if (pt_cmpR op_eq (pv 1) (pe_gint rfl T.c__LEFT) (nomark _))
          (pss_one (ps_ret (pe_callB call_len_list (by rfl) T.m_len (by decide +kernel) (pa_cons (pe_fld (pv 0) rfl) pa_nil))))
          pss_nil)
        (pss_cons (ps_if (pt_cmpR op_eq (pv 1) (pe_gint rfl T.c__STEPS) (nomark _))
          (pss_one (ps_ret (pe_op op_mod (pe_fld (pv 0) rfl) (pe_gint rfl T.c_WORDS))))
          pss_nil)
        (pss_one (ps_ret (pe_fld (pv 0) rfl))))))), ?_⟩
    clear G_Devicesneed_there
    clear hr
    obtain ⟨dx, hx⟩ := id hd.ob
    have c1 := T.cl_Devices
    have n1 := T.n_Devices_left
    have n3 := T.n_Devices_counted
    have n4 := T.n_Devices_timer
    have g1 := gt1 l o d.n d.tm g
    have g3 := gt3 l o d.n d.tm g
    have g4 := gt4 l o d.n d.tm g
    have lnone : (F5 l o d.n d.tm g).lookup ("can" : Str) = none := rfl
    have lnone2 : (F5 l o d.n d.tm g).lookup ("_need_there" : Str) = none := rfl
    walk_at "rd"
    intro H1 s1
    have hd1 := hd.same s1
    have hx1 := s1 _ _ hx
    have hl1 := hd1.lf
    rcases hi with rfl | rfl | rfl | rfl
    · cases hL : d.left with
      | nil =>
        rw [hL] at hl1
        have hsl : SqL K H1 l [] := SqL.of hl1
        walk_at "rd"
        have e : rdN d 960 = d := by show ({ d with left := d.left.tail } : Dev) = d; rw [hL]; cases d; cases hL; rfl
        exact qint (k H1 (by rw [e]; exact hd1) (Out.same s1)) (by show (0 : Int) = d.left.headD 0; rw [hL]; rfl)
      | cons z r =>
        rw [hL] at hl1
        have hsl : SqL K H1 l (V.int z :: r.map V.int) := SqL.of hl1
        have hl2 : H1 l = some (.lst (V.int z :: r.map V.int)) := hl1
        have hix : seqIndex? 0 (V.int z :: r.map V.int).length = some 0 := by simp [seqIndex?]
        have hz : (V.int z :: r.map V.int)[0]? = some (.int z) := rfl
        walk_at "rd"
        refine qint (k _ ?_ (Out.set s1 (by simp))) (by show z = d.left.headD 0; rw [hL]; rfl)
        obtain ⟨xl, xo, xg⟩ := hd1.xl
        have hll := hd1.ll
        have hwl := hd1.wl
        rw [hL] at hll hwl
        show DevAt _ _ x l o g { d with left := d.left.tail }
        rw [hL]
        exact ⟨⟨dx, by rw [upd_ne (Ne.symm xl)]; exact hx1⟩, upd_same, by rw [upd_ne (Ne.symm hd1.lo)]; exact hd1.ou, by rw [upd_ne (Ne.symm hd1.lg)]; exact hd1.li, hd1.lo, hd1.lg, hd1.og, by simp at hll; show r.length ≤ 40; omega, hd1.ol, hd1.gl, fun y hy => hwl y (List.mem_cons_of_mem _ hy), hd1.nb, hd1.tb⟩
    · walk_at "rd"
      exact qint (k H1 hd1 (Out.same s1)) (by show _ = (d.left.length : Int); simp)
    · have nb := hd1.nb
      walk_at "rd"
      exact qint (k H1 hd1 (Out.same s1)) (by show _ = d.n; omega)
    · walk_at "rd"
      exact k H1 hd1 (Out.same s1)
def wrN (d : Dev) (i w : Int) : Dev := if i = 960 then { d with outs := d.outs ++ [w] } else if i = 977 then { d with tm := w } else d
def sp_write (C : Addr) : Sp := fun vs H Q _ => ∃ (x l o g : Addr) (d : Dev) (i w : Int), vs = [.ref x, .int i, .int w] ∧ DevAt C H x l o g d ∧ Plc i ∧ (0 ≤ w ∧ w < 65536) ∧ d.outs.length < 100 ∧ ∀ H', DevAt C H' x l o g (wrN d i w) → Out [x, l, o, g] H H' → Q .non H'
theorem ok_Devices_write (T : Txt K mg) : FnOk P w K mg base CX0 5 T.f_Devices_write T.fd_Devices_write ["self", "place", "word"] (sp_write T.C_Devices) := by
  have G_Devicesneed_there := ok_Devicesneed_there (P := P) (w := w) (base := base) T
  have G_need_word := ok_need_word (P := P) (w := w) (base := base) T
  refine T.F_Devices_write.ok sc_Devices_write (fun vs H Q E h => ?_) (fun cdv A outer s H vs Q E hr h => ?_)
  · obtain ⟨x, l, o, g, d, i, w, rfl, hd, hi, hw, ho, k⟩ := h; rfl
  · obtain ⟨x, l, o, g, d, i, w, rfl, hd, hi, hw, ho, k⟩ := h
    refine ⟨_, (pss_cons (ps_expr (pe_meth (pv 0) T.cl_Devices T.me_Devicesneed_there G_Devicesneed_there (hr.mono (by decide)) T.b_Devicesneed_there .nil pass0 (pa_cons (pv 1) pa_nil)))
        (pss_cons (ps_expr (pe_call G_need_word (hr.mono (by decide)) rfl T.g_need_word T.F_need_word.kp T.b_need_word .nil pass0 (pa_cons (pv 2) pa_nil)))
        (pss_cons (ps_if (pt_cmpR op_eq (pv 1) (pe_gint rfl T.c__INPUT_OUTPUT) (nomark _))
          (pss_one (ps_expr (pe_bm PySem.F.plainAttrs_list PySem.F.slot_list_append PySem.F.type_list_append mt_append (pe_fld (pv 0) rfl) (pa_cons (pv 2) pa_nil))))
          pss_nil)
        (pss_one (ps_if (pt_cmpR op_eq (pv 1) (pe_gint rfl T.c__TIMER) (nomark _))
          (pss_one (ps_stop (ps_fld (pv 0) (pv 2) rfl)))
          pss_nil))))), ?_⟩
    clear G_Devicesneed_there G_need_word
    clear hr
    obtain ⟨dx, hx⟩ := id hd.ob
    have c1 := T.cl_Devices
    have n2 := T.n_Devices_outputs
    have n4 := T.n_Devices_timer
    have g2 := gt2 l o d.n d.tm g
    have lnone : (F5 l o d.n d.tm g).lookup ("can" : Str) = none := rfl
    have lnone2 : (F5 l o d.n d.tm g).lookup ("_need_there" : Str) = none := rfl
    walk_at "rd"
    intro H1 s1
    have hd1 := hd.same s1
    have hx1 := s1 _ _ hx
    have ho1 := hd1.ou
    obtain ⟨xl, xo, xg⟩ := hd1.xl
    have hlen : (d.outs.map V.int).length < sizeLine := size_lt (by simp; omega)
    rcases hi with rfl | rfl | rfl | rfl
    · walk_at "rd"
      refine k _ ?_ (Out.set s1 (by simp))
      show DevAt _ _ x l o g { d with outs := d.outs ++ [w] }
      exact ⟨⟨dx, by rw [upd_ne (Ne.symm xo)]; exact hx1⟩, by rw [upd_ne hd1.lo]; exact hd1.lf, by rw [upd_same, List.map_append]; rfl, by rw [upd_ne (Ne.symm hd1.og)]; exact hd1.li, hd1.lo, hd1.lg, hd1.og, hd1.ll, by simp; omega, hd1.gl, hd1.wl, hd1.nb, hd1.tb⟩
    · walk_at "rd"
      exact k H1 hd1 (Out.same s1)
    · walk_at "rd"
      exact k H1 hd1 (Out.same s1)
    · walk_at "rd"
      refine ⟨?_⟩
      rw [pu4]
      refine k _ ?_ (Out.set s1 (by simp))
      show DevAt _ _ x l o g { d with tm := w }
      exact ⟨⟨dx, upd_same⟩, by rw [upd_ne xl]; exact hd1.lf, by rw [upd_ne xo]; exact hd1.ou, by rw [upd_ne xg]; exact hd1.li, hd1.lo, hd1.lg, hd1.og, hd1.ll, hd1.ol, hd1.gl, hd1.wl, hd1.nb, hw⟩
theorem DevAt.setLn {C : Addr} {H H' : Hp} {x l o g : Addr} {d : Dev} (h : DevAt C H x l o g d) (s : Same H H') {j : Nat} {b : Bool} {u : List V} (e : u = (d.ln.map V.bl).set j (.bl b)) : DevAt C (upd H' g (.lst u)) x l o g { d with ln := d.ln.set j b } := by
  obtain ⟨xl, xo, xg⟩ := h.xl
  obtain ⟨dx, hx⟩ := h.ob
  subst e
  exact ⟨⟨dx, by rw [upd_ne (Ne.symm xg)]; exact s _ _ hx⟩, by rw [upd_ne h.lg]; exact s _ _ h.lf, by rw [upd_ne h.og]; exact s _ _ h.ou, by rw [upd_same, List.map_set], h.lo, h.lg, h.og, h.ll, h.ol, by simpa using h.gl, h.wl, h.nb, h.tb⟩
theorem ix4 {i : Nat} (h : i < 4) {xs : List V} (hl : xs.length = 4) : ixN xs.length (i : Int) = some i := by
  unfold ixN
  rw [if_pos (by omega), if_pos (by omega), Int.toNat_natCast]
def sp_raised (C : Addr) : Sp := fun vs H Q _ => ∃ (x l o g : Addr) (d : Dev) (i : Nat), vs = [.ref x, .int (i : Int)] ∧ DevAt C H x l o g d ∧ i < 4 ∧ ∀ H', DevAt C H' x l o g { d with ln := d.ln.set i true } → Out [x, l, o, g] H H' → Q .non H'
theorem ok_Devices_raised (T : Txt K mg) : FnOk P w K mg base CX0 5 T.f_Devices_raised T.fd_Devices_raised ["self", "line"] (sp_raised T.C_Devices) := by
  have G_need_line := ok_need_line (P := P) (w := w) (base := base) T
  refine T.F_Devices_raised.ok sc_Devices_raised (fun vs H Q E h => ?_) (fun cdv A outer s H vs Q E hr h => ?_)
  · obtain ⟨x, l, o, g, d, i, rfl, hd, hi, k⟩ := h; rfl
  · obtain ⟨x, l, o, g, d, i, rfl, hd, hi, k⟩ := h
    refine ⟨_, (pss_cons (ps_expr (pe_call G_need_line (hr.mono (by decide)) rfl T.g_need_line T.F_need_line.kp T.b_need_line .nil pass0 (pa_cons (pv 1) pa_nil)))
        (pss_one (ps_asg pe_bl (pg_sub (pe_fld (pv 0) rfl) (pv 1) set_list)))), ?_⟩
    clear G_need_line
    clear hr
    obtain ⟨dx, hx⟩ := id hd.ob
    have c1 := T.cl_Devices
    have n5 := T.n_Devices_lines
    have g5 := gt5 l o d.n d.tm g
    have hg := hd.li
    have hix := ix4 hi (xs := d.ln.map V.bl) (by simpa using hd.gl)
    walk_at "rd"
    exact k _ (hd.setLn (L2.Same.refl _) rfl) (Out.set (L2.Same.refl _) (by simp))
def ctN (d : Dev) : Dev := if d.n + 1 = d.tm then { d with n := d.n + 1, ln := d.ln.set 0 true } else { d with n := d.n + 1 }
theorem DevAt.setN {C : Addr} {H : Hp} {x l o g dx : Addr} {d : Dev} (h : DevAt C H x l o g d) {n : Int} (hn : 0 ≤ n ∧ n < 1000) : DevAt C (upd H x (.ins C dx (F5 l o n d.tm g))) x l o g { d with n := n } := by
  obtain ⟨xl, xo, xg⟩ := h.xl
  exact ⟨⟨dx, upd_same⟩, by rw [upd_ne xl]; exact h.lf, by rw [upd_ne xo]; exact h.ou, by rw [upd_ne xg]; exact h.li, h.lo, h.lg, h.og, h.ll, h.ol, h.gl, h.wl, hn, h.tb⟩
theorem Out.trans {F : List Addr} {H H1 H2 : Hp} (a : Out F H H1) (b : Out F H1 H2) : Out F H H2 := fun x u n h => b x u n (a x u n h)
def sp_counted (C : Addr) : Sp := fun vs H Q _ => ∃ (x l o g : Addr) (d : Dev), vs = [.ref x] ∧ DevAt C H x l o g d ∧ d.n < 999 ∧ ∀ H', DevAt C H' x l o g (ctN d) → Out [x, l, o, g] H H' → Q .non H'
theorem ok_Devices_counted (T : Txt K mg) : FnOk P w K mg base CX0 1 T.f_Devices_counted T.fd_Devices_counted ["self"] (sp_counted T.C_Devices) := by
  refine T.F_Devices_counted.ok sc_Devices_counted (fun vs H Q E h => ?_) (fun cdv A outer s H vs Q E hr h => ?_)
  · obtain ⟨x, l, o, g, d, rfl, hd, hn, k⟩ := h; rfl
  · obtain ⟨x, l, o, g, d, rfl, hd, hn, k⟩ := h
    refine ⟨_, (pss_cons (ps_stop (ps_fldaug (pv 0) pe_int in_add))
        (pss_one (ps_if (PW.pt (pw_and (pt_cmpR op_ne (pe_fld (pv 0) rfl) pe_int (nomark _)) (pw_and1 (pt_cmpR op_eq (pe_op op_mod (pe_fld (pv 0) rfl) (pe_gint rfl T.c_WORDS)) (pe_fld (pv 0) rfl) (nomark _)))))
          (pss_one (ps_asg pe_bl (pg_sub (pe_fld (pv 0) rfl) (pe_gint rfl T.c__TIMER_LINE) set_list)))
          pss_nil))), ?_⟩
    clear hr
    obtain ⟨dx, hx⟩ := id hd.ob
    have c1 := T.cl_Devices
    have n3 := T.n_Devices_counted
    have n4 := T.n_Devices_timer
    have n5 := T.n_Devices_lines
    have g3 := gt3 l o d.n d.tm g
    walk_at "rd"
    refine ⟨?_⟩
    rw [pu3]
    have nb := hd.nb
    have tb := hd.tb
    have hd2 := hd.setN (dx := dx) (n := d.n + 1) ⟨by omega, by omega⟩
    have o2 : Out [x, l, o, g] H (upd H x (.ins T.C_Devices dx (F5 l o (d.n + 1) d.tm g))) := Out.set (L2.Same.refl _) (by simp)
    have hx2 : upd H x (.ins T.C_Devices dx (F5 l o (d.n + 1) d.tm g)) x = some (.ins T.C_Devices dx (F5 l o (d.n + 1) d.tm g)) := upd_same
    generalize upd H x (.ins T.C_Devices dx (F5 l o (d.n + 1) d.tm g)) = H2 at hd2 o2 hx2 ⊢
    have h3 := gt3 l o (d.n + 1) d.tm g
    have h4 := gt4 l o (d.n + 1) d.tm g
    have h5 := gt5 l o (d.n + 1) d.tm g
    have hg := hd2.li
    have hg : H2 g = some (.lst (d.ln.map V.bl)) := hg
    have hix := ix4 (show 0 < 4 by decide) (xs := d.ln.map V.bl) (by simpa using hd.gl)
    walk_at "rd"
    refine iteN (fun h1 => ?_) (fun h1 => ?_)
    · walk_at "rd"
      refine iteD (fun h2 => ?_) (fun h2 => ?_)
      · walk_at "rd"
        have e : d.n + 1 = d.tm := by have := V.int.inj h2; omega
        refine k _ ?_ (o2.trans (Out.set (L2.Same.refl _) (by simp)))
        unfold ctN
        rw [if_pos e]
        exact hd2.setLn (L2.Same.refl _) rfl
      · walk_at "rd"
        have e : ¬ d.n + 1 = d.tm := fun z => h2 (congrArg V.int (by omega))
        refine k _ ?_ o2
        unfold ctN
        rw [if_neg e]
        exact hd2
    · walk_at "rd"
      have e : ¬ d.n + 1 = d.tm := fun z => by have := V.int.inj h1; omega
      refine k _ ?_ o2
      unfold ctN
      rw [if_neg e]
      exact hd2
end
end K32

set_option Elab.async false
set_option linter.all false
set_option maxRecDepth 100000
set_option maxHeartbeats 8000000

namespace K32
open PySem PySem.Spec PyProof.Rows L2 Hx 
local macro_rules | `(tactic| walk_at "sm") => `(tactic| repeat' (first | assumption | apply Hx.Same.upd | exact L2.Same.refl _ | apply same_trans'))
local macro_rules | `(tactic| walk_at "hp") => `(tactic| repeat' (first | assumption | exact upd_same | apply old_upd | apply same_at))
local macro_rules | `(tactic| walk_at "rd") => `(tactic| repeat' (first | rfl | apply Exists.intro | apply And.intro | refine iteT ?_ | refine iteF ?_ | exact upd_same | exact SqL.of (by assumption) | exact SqL.of upd_same | exact SqT.of upd_same | exact SqT.of (by assumption) | ((with_reducible show (_ : Int) < _); omega) | ((with_reducible show (_ : Int) ≤ _); omega) | (show (_ : Prop); assumption) | exact Or.inl ⟨_, by assumption, rfl⟩ | exact Or.inl ⟨rfl, _, SqL.of (by assumption)⟩ | exact Or.inl ⟨rfl, _, SqL.of upd_same⟩ | apply old_upd | apply Hx.SqL.new | apply tyl_new | apply Pot.new | exact same_at (by assumption) (by assumption) | exact Or.inl (SqL.of (by assumption)) | exact Or.inl (by assumption) | exact Or.inl (SqL.of upd_same) | exact size_le (Nat.le_of_ble_eq_true rfl) | exact Nat.le_of_ble_eq_true rfl | exact True.intro | exact Or.inl rfl | exact Or.inr rfl | (show (_ : Prop); omega) | (show (_ : Prop); dsimp only; omega) | exact mulw64 (by omega) (by omega) | exact mulw64 (by (try dsimp only); omega) (by (try dsimp only); omega)))

section
variable {P : Program} {w : World} {K : PySem.W.Frag} {mg : Str → Option Value} {base : Heap}
/-- the least raised line that the mask lets by -/
def hit (d : Dev) (m : Int) (i : Nat) : Bool := d.ln.getD i false && decide (m / 2 ^ i % 2 = 1)
def dueV (d : Dev) (m : Int) : V := match (List.range 4).find? (hit d m) with
  | some i => .int (i : Int)
  | none => .non
theorem due_some {d : Dev} {m : Int} {i : Nat} (h4 : i < 4) (h : ∀ j, j < i → hit d m j = false) (hi : hit d m i = true) : dueV d m = .int (i : Int) := by
  have e : (List.range 4).find? (hit d m) = some i := by
    rw [List.find?_range_eq_some]
    exact ⟨hi, by simpa using h4, fun j hj => by rw [h j hj]; rfl⟩
  unfold dueV
  rw [e]
theorem due_none {d : Dev} {m : Int} (h : ∀ j, j < 4 → hit d m j = false) : dueV d m = .non := by
  have e : (List.range 4).find? (hit d m) = none := by
    rw [List.find?_eq_none]
    intro j hj
    rw [h j (by simpa using hj)]
    exact Bool.false_ne_true
  unfold dueV
  rw [e]
theorem at4 {d : Dev} {i : Nat} (hl : d.ln.length = 4) (h : i < 4) : atI (d.ln.map V.bl) (i : Int) = some (.bl (d.ln.getD i false)) := atI_nat (by
  rw [List.getElem?_map, List.getElem?_eq_getElem (by omega), List.getD_eq_getElem?_getD, List.getElem?_eq_getElem (by omega)]; rfl)
def sp_dueD (C : Addr) : Sp := fun vs H Q _ => ∃ (x l o g : Addr) (d : Dev) (m : Int), vs = [.ref x, .int m] ∧ DevAt C H x l o g d ∧ (0 ≤ m ∧ m < 65536) ∧ Q (dueV d m) H
theorem ok_Devices_due (T : Txt K mg) : FnOk P w K mg base CX0 5 T.f_Devices_due T.fd_Devices_due ["self", "mask"] (sp_dueD T.C_Devices) := by
  have G_need_word := ok_need_word (P := P) (w := w) (base := base) T
  refine T.F_Devices_due.ok sc_Devices_due (fun vs H Q E h => ?_) (fun cdv A outer s H vs Q E hr h => ?_)
  · obtain ⟨x, l, o, g, d, m, rfl, hd, hm, k⟩ := h; rfl
  · obtain ⟨x, l, o, g, d, m, rfl, hd, hm, k⟩ := h
    refine ⟨_, (pss_cons (ps_expr (pe_call G_need_word (hr.mono (by decide)) rfl T.g_need_word T.F_need_word.kp T.b_need_word .nil pass0 (pa_cons (pv 1) pa_nil)))
        (pss_cons (ps_forS PassesOwn.never rfl (pi_range1 rfl T.m_range (pa_cons (pe_gint rfl T.c__LINES) pa_nil)) (pg_name (i := 2) sc_Devices_due.nd rfl (Or.inl rfl))
          (pss_one (ps_if (PW.pt (pw_and (pt_val (pe_ix ix_list (pe_fld (pv 0) rfl) (pv 2) (fun _ _ => rfl))) (pw_and1 (pt_cmpR op_eq (pe_op op_mod (pe_op op_shr (pv 1) (pv 2)) pe_int) pe_int (nomark _)))))
            (pss_one (ps_ret (pv 2)))
            pss_nil)))
        (pss_one (ps_ret pe_non)))), ?_⟩
    clear G_need_word
    clear hr
    obtain ⟨dx, hx⟩ := id hd.ob
    have c1 := T.cl_Devices
    have n5 := T.n_Devices_lines
    have g5 := gt5 l o d.n d.tm g
    have hg := hd.li
    walk_at "rd"
    refine ⟨for_range (n := 4) (fun i σ H' => Stop (∃ t, σ = [some (.ref x), some (.int m), t] ∧ H' = H ∧ ∀ j, j < i → hit d m j = false)) ⟨⟨none, rfl, rfl, fun j hj => absurd hj (Nat.not_lt_zero j)⟩⟩ (fun i σ H' hi h => ?_) (fun σ H' h => ?_)⟩
    · obtain ⟨t, rfl, rfl, hno⟩ := h.h
      have ha := at4 (d := d) hd.gl hi
      have e0 : (0 : Int) + (i : Int) = (i : Int) := by omega
      rw [e0]
      cases hb : d.ln.getD i false with
      | false =>
        rw [hb] at ha
        walk_at "rd"
        exact ⟨⟨_, rfl, rfl, fun j hj => by
          by_cases e : j < i
          · exact hno j e
          · obtain rfl : j = i := by omega
            unfold hit; rw [hb]; rfl⟩⟩
      | true =>
        rw [hb] at ha
        walk_at "rd"
        refine iteD (fun h2 => ?_) (fun h2 => ?_)
        · have e := due_some hi hno (show hit d m i = true by
            unfold hit; rw [hb, Bool.true_and]
            have := V.int.inj h2
            rw [Int.toNat_natCast] at this
            exact decide_eq_true this)
          rw [e] at k
          walk_at "rd"
        · walk_at "rd"
          exact ⟨⟨_, rfl, rfl, fun j hj => by
            by_cases e : j < i
            · exact hno j e
            · obtain rfl : j = i := by omega
              unfold hit; rw [hb, Bool.true_and]
              exact decide_eq_false fun z => h2 (congrArg V.int (by rw [Int.toNat_natCast]; exact z))⟩⟩
    · obtain ⟨t, rfl, rfl, hno⟩ := h.h
      rw [due_none hno] at k
      exact k
def sp_lowered (C : Addr) : Sp := fun vs H Q _ => ∃ (x l o g : Addr) (d : Dev) (i : Nat), vs = [.ref x, .int (i : Int)] ∧ DevAt C H x l o g d ∧ i < 4 ∧ d.ln.getD i false = true ∧ ∀ H', DevAt C H' x l o g { d with ln := d.ln.set i false } → Out [x, l, o, g] H H' → Q .non H'
theorem ok_Devices_lowered (T : Txt K mg) : FnOk P w K mg base CX0 5 T.f_Devices_lowered T.fd_Devices_lowered ["self", "line"] (sp_lowered T.C_Devices) := by
  have G_need_line := ok_need_line (P := P) (w := w) (base := base) T
  refine T.F_Devices_lowered.ok sc_Devices_lowered (fun vs H Q E h => ?_) (fun cdv A outer s H vs Q E hr h => ?_)
  · obtain ⟨x, l, o, g, d, i, rfl, hd, hi, hb, k⟩ := h; rfl
  · obtain ⟨x, l, o, g, d, i, rfl, hd, hi, hb, k⟩ := h
    refine ⟨_, (pss_cons (ps_expr (pe_call G_need_line (hr.mono (by decide)) rfl T.g_need_line T.F_need_line.kp T.b_need_line .nil pass0 (pa_cons (pv 1) pa_nil)))
        (pss_cons (ps_if (pt_not (pt_val (pe_ix ix_list (pe_fld (pv 0) rfl) (pv 1) (fun _ _ => rfl))))
          (pss_one ps_never)
          pss_nil)
        (pss_one (ps_asg pe_bl (pg_sub (pe_fld (pv 0) rfl) (pv 1) set_list))))), ?_⟩
    clear G_need_line
    clear hr
    obtain ⟨dx, hx⟩ := id hd.ob
    have c1 := T.cl_Devices
    have n5 := T.n_Devices_lines
    have g5 := gt5 l o d.n d.tm g
    have hg := hd.li
    have hix := ix4 hi (xs := d.ln.map V.bl) (by simpa using hd.gl)
    have ha := at4 (d := d) hd.gl hi
    rw [hb] at ha
    walk_at "rd"
    exact k _ (hd.setLn (L2.Same.refl _) rfl) (Out.set (L2.Same.refl _) (by simp))
def sp_outs (C : Addr) : Sp := fun vs H Q _ => ∃ (x l o g : Addr) (d : Dev), vs = [.ref x] ∧ DevAt C H x l o g d ∧ ∀ (p : Addr) (H' : Hp), H p = none → H' p = some (.lst (d.outs.map V.int)) → Same H H' → Q (.ref p) H'
theorem ok_Devices_outputs (T : Txt K mg) : FnOk P w K mg base CX0 1 T.f_Devices_outputs T.fd_Devices_outputs ["self"] (sp_outs T.C_Devices) := by
  refine T.F_Devices_outputs.ok sc_Devices_outputs (fun vs H Q E h => ?_) (fun cdv A outer s H vs Q E hr h => ?_)
  · obtain ⟨x, l, o, g, d, rfl, hd, k⟩ := h; rfl
  · obtain ⟨x, l, o, g, d, rfl, hd, k⟩ := h
    refine ⟨_, (pss_one (ps_ret (pe_callTy call_list_of (by rfl) T.m_list (by decide +kernel) (pa_cons (pe_fld (pv 0) rfl) pa_nil)))), ?_⟩
    clear hr
    obtain ⟨dx, hx⟩ := id hd.ob
    have c1 := T.cl_Devices
    have n2 := T.n_Devices_outputs
    have g2 := gt2 l o d.n d.tm g
    have ho := hd.ou
    walk_at "rd"
    intro p hp
    exact k p _ hp upd_same (same_upd hp)
def sp_lefts (C : Addr) : Sp := fun vs H Q _ => ∃ (x l o g : Addr) (d : Dev), vs = [.ref x] ∧ DevAt C H x l o g d ∧ ∀ (p : Addr) (H' : Hp), H p = none → H' p = some (.lst (d.left.map V.int)) → Same H H' → Q (.ref p) H'
theorem ok_Devices_left (T : Txt K mg) : FnOk P w K mg base CX0 1 T.f_Devices_left T.fd_Devices_left ["self"] (sp_lefts T.C_Devices) := by
  refine T.F_Devices_left.ok sc_Devices_left (fun vs H Q E h => ?_) (fun cdv A outer s H vs Q E hr h => ?_)
  · obtain ⟨x, l, o, g, d, rfl, hd, k⟩ := h; rfl
  · obtain ⟨x, l, o, g, d, rfl, hd, k⟩ := h
    refine ⟨_, (pss_one (ps_ret (pe_callTy call_list_of (by rfl) T.m_list (by decide +kernel) (pa_cons (pe_fld (pv 0) rfl) pa_nil)))), ?_⟩
    clear hr
    obtain ⟨dx, hx⟩ := id hd.ob
    have c1 := T.cl_Devices
    have n1 := T.n_Devices_left
    have g1 := gt1 l o d.n d.tm g
    have hl := hd.lf
    walk_at "rd"
    intro p hp
    exact k p _ hp upd_same (same_upd hp)
def sp_steps (C : Addr) : Sp := fun vs H Q _ => ∃ (x l o g : Addr) (d : Dev), vs = [.ref x] ∧ DevAt C H x l o g d ∧ Q (.int d.n) H
theorem ok_Devices_steps (T : Txt K mg) : FnOk P w K mg base CX0 1 T.f_Devices_steps T.fd_Devices_steps ["self"] (sp_steps T.C_Devices) := by
  refine T.F_Devices_steps.ok sc_Devices_steps (fun vs H Q E h => ?_) (fun cdv A outer s H vs Q E hr h => ?_)
  · obtain ⟨x, l, o, g, d, rfl, hd, k⟩ := h; rfl
  · obtain ⟨x, l, o, g, d, rfl, hd, k⟩ := h
    refine ⟨_, (pss_one (ps_ret (pe_fld (pv 0) rfl))), ?_⟩
    clear hr
    obtain ⟨dx, hx⟩ := id hd.ob
    have c1 := T.cl_Devices
    have n3 := T.n_Devices_counted
    have g3 := gt3 l o d.n d.tm g
    walk_at "rd"
def lit (b : List Bool) (i : Nat) : List Nat := (List.range i).filter fun j => b.getD j false
def litI (b : List Bool) (i : Nat) : List Int := (lit b i).map fun (j : Nat) => (j : Int)
theorem lit_succ (b : List Bool) (i : Nat) : lit b (i + 1) = lit b i ++ (if b.getD i false then [i] else []) := by
  unfold lit
  rw [List.range_succ, List.filter_append, List.filter_cons]
  rfl
theorem lit_len (b : List Bool) (i : Nat) : (lit b i).length ≤ i := by
  have := List.length_filter_le (fun j => b.getD j false) (List.range i)
  rw [List.length_range] at this
  exact this
def litV (b : List Bool) (i : Nat) : List V := (litI b i).map V.int
theorem litV_succ (b : List Bool) (i : Nat) : litV b (i + 1) = litV b i ++ (if b.getD i false then [V.int (i : Int)] else []) := by
  unfold litV litI
  rw [lit_succ, List.map_append, List.map_append]
  split <;> rfl
def toldD (d : Dev) : PyData := .tuple [.list (d.left.map PyData.int), .list (d.outs.map PyData.int), .int d.n, .int d.tm, .list ((litI d.ln 4).map PyData.int)]
theorem told_sh (d : Dev) : SeqAt.shaped (toldD d) = true := flat_sh (n := 2) (flat_tup (n := 1) fun e he => by
  have li : ∀ ns : List Int, FlatD 1 (.list (ns.map PyData.int)) := fun ns => flat_list (n := 0) fun z hz => by
    obtain ⟨y, _, rfl⟩ := List.mem_map.mp hz
    exact flat_int 0 y
  simp only [List.mem_cons, List.not_mem_nil, or_false] at he
  rcases he with rfl | rfl | rfl | rfl | rfl
  · exact li _
  · exact li _
  · exact flat_int 1 _
  · exact flat_int 1 _
  · exact li _)
def sp_told (K : PySem.W.Frag) (C : Addr) : Sp := fun vs H Q _ => ∃ (x l o g : Addr) (d : Dev), vs = [.ref x] ∧ DevAt C H x l o g d ∧ ∀ (p : Addr) (H' : Hp), Dp K H' (.ref p) (toldD d) → Same H H' → Q (.ref p) H'
theorem ok_Devices_told (T : Txt K mg) : FnOk P w K mg base CX0 1 T.f_Devices_told T.fd_Devices_told ["self"] (sp_told K T.C_Devices) := by
  refine T.F_Devices_told.ok sc_Devices_told (fun vs H Q E h => ?_) (fun cdv A outer s H vs Q E hr h => ?_)
  · obtain ⟨x, l, o, g, d, rfl, hd, k⟩ := h; rfl
  · obtain ⟨x, l, o, g, d, rfl, hd, k⟩ := h
    refine ⟨_, (pss_cons (ps_setLc (i := 1) (own := [("line", 2)]) (g := gName 2) (tt := tTest (tOp (rIxL K) (tFld K (tVar 0) "_lines") (tVar 2))) rfl sc_Devices_told.nd rfl rfl (sw_true rfl rfl rfl (by decide +kernel)) (pi_range1 rfl T.m_range (pa_cons (pe_gint rfl T.c__LINES) pa_nil)) (blkOk_by (N := ["self", "lines", "line"]) (sc := defScope s_Devices_told) (by decide +kernel)) (fun _ _ _ _ _ => pg_name (i := 2) sc_Devices_told.nd rfl (Or.inl rfl)) (fun _ _ _ _ _ => pts_one (pt_val (pe_ix ix_list (pe_fld (pv 0) rfl) (pv 2) (fun _ _ => rfl)))) (fun _ _ _ _ _ => (pv 2)))
        (pss_one (ps_ret (pe_tup (pa_cons (pe_callTy call_list_of (by rfl) T.m_list (by decide +kernel) (pa_cons (pe_fld (pv 0) rfl) pa_nil)) (pa_cons (pe_callTy call_list_of (by rfl) T.m_list (by decide +kernel) (pa_cons (pe_fld (pv 0) rfl) pa_nil)) (pa_cons (pe_fld (pv 0) rfl) (pa_cons (pe_fld (pv 0) rfl) (pa_cons (pv 1) pa_nil))))))))), ?_⟩
    clear hr
    obtain ⟨dx, hx⟩ := id hd.ob
    have c1 := T.cl_Devices
    have n1 := T.n_Devices_left
    have n2 := T.n_Devices_outputs
    have n3 := T.n_Devices_counted
    have n4 := T.n_Devices_timer
    have n5 := T.n_Devices_lines
    have g1 := gt1 l o d.n d.tm g
    have g2 := gt2 l o d.n d.tm g
    have g3 := gt3 l o d.n d.tm g
    have g4 := gt4 l o d.n d.tm g
    have g5 := gt5 l o d.n d.tm g
    have hl := hd.lf
    have ho := hd.ou
    have hg := hd.li
    walk_at "rd"
    intro D hD
    refine lc_range (n := 4) (fun i H' => Stop (Same H H' ∧ H' D = some (.lst (litV d.ln i)))) ⟨⟨same_upd hD, upd_same⟩⟩ (fun i H' hi h => ?_) (fun H' h => ?_)
    · have h := h.h
      have hx2 := h.1 _ _ hx
      have hg2 := h.1 _ _ hg
      have ha := at4 (d := d) hd.gl hi
      have e0 : (0 : Int) + (i : Int) = (i : Int) := by omega
      rw [e0]
      have hD2 := h.2
      have lt : (litV d.ln i).length < sizeLine := size_lt (by unfold litV litI; have := lit_len d.ln i; simp; omega)
      cases hb : d.ln.getD i false with
      | false =>
        rw [hb] at ha
        walk_at "rd"
        exact ⟨⟨h.1, by rw [h.2, litV_succ, hb]; simp⟩⟩
      | true =>
        rw [hb] at ha
        walk_at "rd"
        exact ⟨⟨same_set h.1 hD, by rw [upd_same, litV_succ, hb]; rfl⟩⟩
    · obtain ⟨s1, e1⟩ := h.h
      have hx2 := s1 _ _ hx
      have hl2 := s1 _ _ hl
      have ho2 := s1 _ _ ho
      walk_at "rd"
      intro l2 hl3
      have ho4 : (upd H' l2 (.lst (d.left.map V.int))) o = some (.lst (d.outs.map V.int)) := old_upd hl3 ho2
      walk_at "rd"
      intro o2 ho3
      walk_at "rd"
      intro t ht
      have s4 : Same H' (upd (upd (upd H' l2 (.lst (d.left.map V.int))) o2 (.lst (d.outs.map V.int))) t (.tup [.ref l2, .ref o2, .int d.n, .int d.tm, .ref D])) := Hx.Same.upd (Hx.Same.upd (same_upd hl3) ho3) ht
      refine k t _ (.tup (SqT.of upd_same) (.cons (.lst (SqL.of ?_) (dp_ints _)) (.cons (.lst (SqL.of ?_) (dp_ints _)) (.cons (.int _) (.cons (.int _) (.cons (.lst (SqL.of (s4 _ _ e1)) (dp_ints _)) .nil)))))) (L2.Same.trans s1 s4)
      · exact old_upd ht (old_upd ho3 upd_same)
      · exact old_upd ht upd_same
def sp_copy (C : Addr) : Sp := fun vs H Q _ => ∃ (x l o g : Addr) (d : Dev), vs = [.ref x] ∧ DevAt C H x l o g d ∧ ∀ (x' l' o' g' : Addr) (H' : Hp), H x' = none → H l' = none → H o' = none → H g' = none → DevAt C H' x' l' o' g' d → Same H H' → Q (.ref x') H'
theorem ok_Devices_copy (T : Txt K mg) : FnOk P w K mg base CX0 8 T.f_Devices_copy T.fd_Devices_copy ["self"] (sp_copy T.C_Devices) := by
  have G_Devices_init := ok_Devices_init (P := P) (w := w) (base := base) T
  refine T.F_Devices_copy.ok sc_Devices_copy (fun vs H Q E h => ?_) (fun cdv A outer s H vs Q E hr h => ?_)
  · obtain ⟨x, l, o, g, d, rfl, hd, k⟩ := h; rfl
  · obtain ⟨x, l, o, g, d, rfl, hd, k⟩ := h
    refine ⟨_, (pss_cons (ps_set (i := 1) sc_Devices_copy.nd rfl (Or.inl rfl) (pe_make T.mk_Devices G_Devices_init (hr.mono (by decide)) rfl T.g_Devices T.b_Devices_init .nil pass0 (pa_cons (pe_fld (pv 0) rfl) pa_nil)))
        (pss_cons (ps_stop (ps_fld (pv 1) (pe_callTy call_list_of (by rfl) T.m_list (by decide +kernel) (pa_cons (pe_fld (pv 0) rfl) pa_nil)) rfl))
        (pss_cons (ps_stop (ps_fld (pv 1) (pe_fld (pv 0) rfl) rfl))
        (pss_cons (ps_stop (ps_fld (pv 1) (pe_fld (pv 0) rfl) rfl))
        (pss_cons (ps_stop (ps_fld (pv 1) (pe_callTy call_list_of (by rfl) T.m_list (by decide +kernel) (pa_cons (pe_fld (pv 0) rfl) pa_nil)) rfl))
        (pss_one (ps_ret (pv 1)))))))), ?_⟩
    clear G_Devices_init
    clear hr
    obtain ⟨dx, hx⟩ := id hd.ob
    have c1 := T.cl_Devices
    have n1 := T.n_Devices_left
    have n2 := T.n_Devices_outputs
    have n3 := T.n_Devices_counted
    have n4 := T.n_Devices_timer
    have n5 := T.n_Devices_lines
    have g1 := gt1 l o d.n d.tm g
    have g2 := gt2 l o d.n d.tm g
    have g3 := gt3 l o d.n d.tm g
    have g4 := gt4 l o d.n d.tm g
    have g5 := gt5 l o d.n d.tm g
    walk_at "rd"
    intro x' dx' nx ndx nex
    have nx' : upd H dx' (.own x') x' = none := by rw [upd_ne (Ne.symm nex)]; exact nx
    have sm : Same H (upd (upd H dx' (.own x')) x' (.ins T.C_Devices dx' [])) := Hx.Same.upd (same_upd ndx) nx'
    have hl1 := sm _ _ hd.lf
    have ll := hd.ll
    have wl := hd.wl
    walk_at "rd"
    intro l' o' g' H2 fl fo fg hw bt
    obtain ⟨dx2, hx2⟩ := id hw.ob
    have s2 : Same H H2 := fun b u e => bt b u (ne_of_none e nx) (sm _ _ e)
    have hx3 := s2 _ _ hx
    have ho3 := s2 _ _ hd.ou
    have hg3 := s2 _ _ hd.li
    walk_at "rd"
    intro o2 fo2
    have xx : x ≠ x' := ne_of_none hx nx
    have gx' : g' ≠ x' := hw.xl.2.2
    have lx' : l' ≠ x' := hw.xl.1
    have ox2 : o2 ≠ x' := Ne.symm (ne_of_none hx2 fo2)
    walk_at "rd"
    refine ⟨?_⟩
    rw [pu2]
    have hx4 : (upd (upd H2 o2 (.lst (d.outs.map V.int))) x' (.ins T.C_Devices dx2 (F5 l' o2 (d0 d.left).n (d0 d.left).tm g'))) x = some (.ins T.C_Devices dx (F5 l o d.n d.tm g)) := by rw [upd_ne xx]; exact old_upd fo2 hx3
    walk_at "rd"
    refine ⟨?_⟩
    rw [pu3]
    have hx5 : (upd (upd (upd H2 o2 (.lst (d.outs.map V.int))) x' (.ins T.C_Devices dx2 (F5 l' o2 (d0 d.left).n (d0 d.left).tm g'))) x' (.ins T.C_Devices dx2 (F5 l' o2 d.n (d0 d.left).tm g'))) x = some (.ins T.C_Devices dx (F5 l o d.n d.tm g)) := by rw [upd_ne xx]; exact hx4
    walk_at "rd"
    refine ⟨?_⟩
    rw [pu4]
    have sH : Same H (upd (upd (upd (upd H2 o2 (.lst (d.outs.map V.int))) x' (.ins T.C_Devices dx2 (F5 l' o2 (d0 d.left).n (d0 d.left).tm g'))) x' (.ins T.C_Devices dx2 (F5 l' o2 d.n (d0 d.left).tm g'))) x' (.ins T.C_Devices dx2 (F5 l' o2 d.n d.tm g'))) := same_set (same_set (same_set (L2.Same.trans s2 (same_upd fo2)) nx) nx) nx
    have hx6 := sH _ _ hx
    have hg6 := sH _ _ hd.li
    have hl6 : (upd (upd (upd (upd H2 o2 (.lst (d.outs.map V.int))) x' (.ins T.C_Devices dx2 (F5 l' o2 (d0 d.left).n (d0 d.left).tm g'))) x' (.ins T.C_Devices dx2 (F5 l' o2 d.n (d0 d.left).tm g'))) x' (.ins T.C_Devices dx2 (F5 l' o2 d.n d.tm g'))) l' = some (.lst (d.left.map V.int)) := by
      rw [upd_ne lx', upd_ne lx', upd_ne lx']; exact old_upd fo2 hw.lf
    have ho6 : (upd (upd (upd (upd H2 o2 (.lst (d.outs.map V.int))) x' (.ins T.C_Devices dx2 (F5 l' o2 (d0 d.left).n (d0 d.left).tm g'))) x' (.ins T.C_Devices dx2 (F5 l' o2 d.n (d0 d.left).tm g'))) x' (.ins T.C_Devices dx2 (F5 l' o2 d.n d.tm g'))) o2 = some (.lst (d.outs.map V.int)) := by
      rw [upd_ne ox2, upd_ne ox2, upd_ne ox2]; exact upd_same
    have hy6 : (upd (upd (upd (upd H2 o2 (.lst (d.outs.map V.int))) x' (.ins T.C_Devices dx2 (F5 l' o2 (d0 d.left).n (d0 d.left).tm g'))) x' (.ins T.C_Devices dx2 (F5 l' o2 d.n (d0 d.left).tm g'))) x' (.ins T.C_Devices dx2 (F5 l' o2 d.n d.tm g'))) x' = some (.ins T.C_Devices dx2 (F5 l' o2 d.n d.tm g')) := upd_same
    generalize (upd (upd (upd (upd H2 o2 (.lst (d.outs.map V.int))) x' (.ins T.C_Devices dx2 (F5 l' o2 (d0 d.left).n (d0 d.left).tm g'))) x' (.ins T.C_Devices dx2 (F5 l' o2 d.n (d0 d.left).tm g'))) x' (.ins T.C_Devices dx2 (F5 l' o2 d.n d.tm g'))) = H6 at sH hx6 hg6 hl6 ho6 hy6 ⊢
    walk_at "rd"
    intro g2 fg2
    walk_at "rd"
    refine ⟨?_⟩
    rw [pu5]
    walk_at "rd"
    have g2x : g2 ≠ x' := Ne.symm (ne_of_none hy6 fg2)
    have g2l : l' ≠ g2 := ne_of_none hl6 fg2
    have g2o : o2 ≠ g2 := ne_of_none ho6 fg2
    have lo2 : l' ≠ o2 := ne_of_none hw.lf fo2
    refine k x' l' o2 g2 _ nx (sm.free fl) (s2.free fo2) (sH.free fg2) ⟨⟨dx2, upd_same⟩, ?_, ?_, ?_, lo2, g2l, g2o, hd.ll, hd.ol, hd.gl, hd.wl, hd.nb, hd.tb⟩ (same_set (L2.Same.trans sH (same_upd fg2)) nx)
    · rw [upd_ne lx']; exact old_upd fg2 hl6
    · rw [upd_ne ox2]; exact old_upd fg2 ho6
    · rw [upd_ne g2x]; exact upd_same
theorem dp_bools {K : PySem.W.Frag} {H : Hp} : ∀ ns : List Bool, DpAll K H (ns.map V.bl) (ns.map PyData.bool)
  | [] => .nil
  | n :: r => .cons (.bl n) (dp_bools r)
theorem bools_sh (ns : List Bool) : SeqAt.shaped (.list (ns.map PyData.bool)) = true := flat_sh (n := 1) (flat_list (n := 0) fun z hz => by
  obtain ⟨y, _, rfl⟩ := List.mem_map.mp hz
  exact ⟨by simp [PyData.canLay0], by simp [PyData.depth]⟩)
theorem kit_self {K : PySem.W.Frag} {C : Addr} : PySem.W.kitOne K (.ref C) (.ref C) = some true := if_pos (beq_self_eq_true _)
/-- two of them, alike but for the number of steps, if that -/
def sp_eqD (C : Addr) : Sp := fun vs H Q _ => ∃ (x l o g x' l' o' g' : Addr) (d d' : Dev), vs = [.ref x, .ref x'] ∧ DevAt C H x l o g d ∧ DevAt C H x' l' o' g' d' ∧ d'.left = d.left ∧ d'.outs = d.outs ∧ (d'.n = d.n → d' = d) ∧ Q (.bl (decide (d.n = d'.n))) H
theorem ok_Devices_eq (T : Txt K mg) : FnOk P w K mg base CX0 1 T.f_Devices_eq T.fd_Devices_eq ["self", "other"] (sp_eqD T.C_Devices) := by
  refine T.F_Devices_eq.ok sc_Devices_eq (fun vs H Q E h => ?_) (fun cdv A outer s H vs Q E hr h => ?_)
  · obtain ⟨x, l, o, g, x', l', o', g', d, d', rfl, hd, hd', el, eo, en, k⟩ := h; rfl
  · obtain ⟨x, l, o, g, x', l', o', g', d, d', rfl, hd, hd', el, eo, en, k⟩ := h
    refine ⟨_, (pss_one (ps_ret (pe_and (pe_callB call_isi (by rfl) T.m_isinstance (by decide +kernel) (pa_cons (pv 1) (pa_cons (pe_glob (v := .ref T.C_Devices) rfl T.g_Devices rfl) pa_nil))) (pe_and (pe_cmpR (op_eqS hr.units) (pe_fld (pv 0) rfl) (pe_fld (pv 1) rfl) (nomark _)) (pe_and (pe_cmpR (op_eqS hr.units) (pe_fld (pv 0) rfl) (pe_fld (pv 1) rfl) (nomark _)) (pe_and (pe_cmpR op_eq (pe_fld (pv 0) rfl) (pe_fld (pv 1) rfl) (nomark _)) (pe_and (pe_cmpR op_eq (pe_fld (pv 0) rfl) (pe_fld (pv 1) rfl) (nomark _)) (pe_one (pe_cmpR (op_eqS hr.units) (pe_fld (pv 0) rfl) (pe_fld (pv 1) rfl) (nomark _)))))))))), ?_⟩
    clear hr
    obtain ⟨dx, hx⟩ := id hd.ob
    obtain ⟨dx', hx'⟩ := id hd'.ob
    have c1 := T.cl_Devices
    have n1 := T.n_Devices_left
    have n2 := T.n_Devices_outputs
    have n3 := T.n_Devices_counted
    have n4 := T.n_Devices_timer
    have n5 := T.n_Devices_lines
    have g1 := gt1 l o d.n d.tm g
    have g2 := gt2 l o d.n d.tm g
    have g3 := gt3 l o d.n d.tm g
    have g4 := gt4 l o d.n d.tm g
    have g5 := gt5 l o d.n d.tm g
    have g1' := gt1 l' o' d'.n d'.tm g'
    have g2' := gt2 l' o' d'.n d'.tm g'
    have g3' := gt3 l' o' d'.n d'.tm g'
    have g4' := gt4 l' o' d'.n d'.tm g'
    have g5' := gt5 l' o' d'.n d'.tm g'
    have L1 : Dp K H (.ref l) (.list (d.left.map PyData.int)) := .lst (SqL.of hd.lf) (dp_ints _)
    have L2 : Dp K H (.ref l') (.list (d.left.map PyData.int)) := .lst (SqL.of (by rw [← el]; exact hd'.lf)) (dp_ints _)
    have O1 : Dp K H (.ref o) (.list (d.outs.map PyData.int)) := .lst (SqL.of hd.ou) (dp_ints _)
    have O2 : Dp K H (.ref o') (.list (d.outs.map PyData.int)) := .lst (SqL.of (by rw [← eo]; exact hd'.ou)) (dp_ints _)
    have S1 := sh_ints d.left
    have S2 := sh_ints d.outs
    have S3 := bools_sh d.ln
    have ty : TyX K H (.ref x') (.ref T.C_Devices) := .base (.ins hx' c1 T.ic_Devices T.in_Devices T.it_Devices T.im_Devices)
    have ks : PySem.W.kitOne K (.ref T.C_Devices) (.ref T.C_Devices) = some true := kit_self
    have cv : ClsV (.ref T.C_Devices) (.ref T.C_Devices) := .own _
    walk_at "rd"
    refine iteD (fun h => ?_) (fun h => ?_)
    · have e := en (V.int.inj h).symm
      subst e
      have G1 : Dp K H (.ref g) (.list (d'.ln.map PyData.bool)) := .lst (SqL.of hd.li) (dp_bools _)
      have G2 : Dp K H (.ref g') (.list (d'.ln.map PyData.bool)) := .lst (SqL.of hd'.li) (dp_bools _)
      walk_at "rd"
      refine iteD (fun _ => ?_) (fun h => absurd rfl h)
      walk_at "rd"
      exact qbl k (by simp)
    · walk_at "rd"
      exact qbl k (decide_eq_false fun z => h (congrArg V.int z)).symm
end
end K32

set_option Elab.async false
set_option linter.all false
set_option maxRecDepth 100000
set_option maxHeartbeats 8000000

namespace K32
open PySem PySem.Spec PyProof.Rows L2 Hx 
local macro_rules | `(tactic| walk_at "sm") => `(tactic| repeat' (first | assumption | apply Hx.Same.upd | exact L2.Same.refl _ | apply same_trans'))
local macro_rules | `(tactic| walk_at "hp") => `(tactic| repeat' (first | assumption | exact upd_same | apply old_upd | apply same_at))
local macro_rules | `(tactic| walk_at "rd") => `(tactic| repeat' (first | rfl | apply Exists.intro | apply And.intro | refine iteT ?_ | refine iteF ?_ | exact upd_same | exact SqL.of (by assumption) | exact SqL.of upd_same | exact SqT.of upd_same | exact SqT.of (by assumption) | ((with_reducible show (_ : Int) < _); omega) | ((with_reducible show (_ : Int) ≤ _); omega) | (show (_ : Prop); assumption) | exact Or.inl ⟨_, by assumption, rfl⟩ | exact Or.inl ⟨rfl, _, SqL.of (by assumption)⟩ | exact Or.inl ⟨rfl, _, SqL.of upd_same⟩ | apply old_upd | apply Hx.SqL.new | apply tyl_new | apply Pot.new | exact same_at (by assumption) (by assumption) | exact Or.inl (SqL.of (by assumption)) | exact Or.inl (by assumption) | exact Or.inl (SqL.of upd_same) | exact size_le (Nat.le_of_ble_eq_true rfl) | exact Nat.le_of_ble_eq_true rfl | exact True.intro | exact Or.inl rfl | exact Or.inr rfl | (show (_ : Prop); omega) | (show (_ : Prop); dsimp only; omega) | exact mulw64 (by omega) (by omega) | exact mulw64 (by (try dsimp only); omega) (by (try dsimp only); omega)))

section
variable {P : Program} {w : World} {K : PySem.W.Frag} {mg : Str → Option Value} {base : Heap}
def sp_Lpot (K : PySem.W.Frag) : Sp := fun vs H Q _ => ∃ (a : Addr) (ns : List Int), vs = [.ref a, .int 0] ∧ SqL K H a (ns.map V.int) ∧ ns.length ≤ 63 ∧ ∀ p (H' : Hp), H p = none → Same H H' → Pot H' p → Q (.ref p) H'
theorem ok_Lpot (T : Txt K mg) : FnOk P w K mg base CX0 1 T.f_Lpot T.fd_Lpot ["_law_script", "_law_k"] (sp_Lpot K) := by
  refine T.F_Lpot.ok sc_Lpot (fun vs H Q E h => ?_) (fun cdv A outer s H vs Q E hr h => ?_)
  · obtain ⟨a, ns, rfl, hS, hl, k⟩ := h; rfl
  · obtain ⟨a, ns, rfl, hS, hl, k⟩ := h
    refine ⟨_, (pss_cons (ps_set (i := 2) sc_Lpot.nd rfl (Or.inl rfl) (pe_ifExp (pt_cmpR op_lt (pv 1) (pe_callB call_len_list (by rfl) T.m_len (by decide +kernel) (pa_cons (pv 0) pa_nil)) (nomark _)) (pe_callB call_abs (by rfl) T.m_abs (by decide +kernel) (pa_cons (pe_ix ix_list (pv 0) (pv 1) (fun _ _ => rfl)) pa_nil)) (pe_op op_add (pe_op op_mulW pe_int (pv 1)) pe_int)))
        (pss_one (ps_ret (pe_lst (pa_cons (pe_callB (call_max2 rfl) (by rfl) T.m_max (by decide +kernel) (pa_cons pe_int (pa_cons (pe_op op_sub (pv 2) (pe_op op_pow pe_int pe_int)) pa_nil))) (pa_cons (pe_op op_add (pe_op op_mod (pe_callTy call_int1i (by rfl) T.m_int (by decide +kernel) (pa_cons (pe_op op_add (pe_op op_add (pe_op op_mulW (pe_op op_mod (pe_callTy call_int1i (by rfl) T.m_int (by decide +kernel) (pa_cons (pv 2) pa_nil)) pe_int) pe_int) (pe_op op_mulW pe_int (pv 1))) pe_int) pa_nil)) pe_int) pe_int) pa_nil)))))), ?_⟩
    clear hr
    walk_at "rd"
    refine iteD (fun h => ?_) (fun h => ?_)
    · obtain ⟨v, hv, hm⟩ := pick_at (xs := ns.map V.int) (d := 0) (by omega) (by omega)
      obtain ⟨z, _, rfl⟩ := List.mem_map.mp hm
      walk_at "rd"
      intro p hp
      exact k p _ hp (same_upd hp) ⟨_, _, upd_same, by split <;> omega, by omega, by omega⟩
    · walk_at "rd"
      intro p hp
      exact k p _ hp (same_upd hp) ⟨_, _, upd_same, by split <;> omega, by omega, by omega⟩

theorem ok_Ldraw (T : Txt K mg) : FnOk P w K mg base CX0 1 T.f_Ldraw T.fd_Ldraw ["_law_pot_here", "_law_many"] (spDraw) := by
  refine T.F_Ldraw.ok sc_Ldraw (fun vs H Q E h => ?_) (fun cdv A outer s H vs Q E hr h => ?_)
  · obtain ⟨a, n, rfl, ⟨x, y, e, hx, hy, hy2⟩, hn, hn2, k⟩ := h; rfl
  · obtain ⟨a, n, rfl, ⟨x, y, e, hx, hy, hy2⟩, hn, hn2, k⟩ := h
    refine ⟨_, (pss_cons (ps_if (pt_cmpR op_gt (pe_ix ix_list (pv 0) pe_int (fun _ _ => rfl)) pe_int (nomark _))
          (pss_cons (ps_asg (pe_callB call_divmod (by rfl) T.m_divmod (by decide +kernel) (pa_cons (pe_ix ix_list (pv 0) pe_int (fun _ _ => rfl)) (pa_cons (pv 1) pa_nil))) (pg_tup rfl (pgs_cons (pg_sub (pv 0) pe_int set_list) (pgs_cons (pg_name (i := 2) sc_Ldraw.nd rfl (Or.inl rfl)) pgs_nil))))
          (pss_one (ps_ret (pv 2))))
          pss_nil)
        (pss_cons (ps_asg (pe_op op_mod (pe_callTy call_int1i (by rfl) T.m_int (by decide +kernel) (pa_cons (pe_op op_add (pe_op op_mulW (pe_ix ix_list (pv 0) pe_int (fun _ _ => rfl)) pe_int) pe_int) pa_nil)) pe_int) (pg_sub (pv 0) pe_int set_list))
        (pss_one (ps_ret (pe_op op_mod (pe_callTy call_int1i (by rfl) T.m_int (by decide +kernel) (pa_cons (pe_op op_fdiv (pe_op op_mod (pe_callTy call_int1i (by rfl) T.m_int (by decide +kernel) (pa_cons (pe_op op_mulW (pe_ix ix_list (pv 0) pe_int (fun _ _ => rfl)) (pe_ix ix_list (pv 0) pe_int (fun _ _ => rfl))) pa_nil)) pe_int) pe_int) pa_nil)) (pv 1)))))), ?_⟩
    clear hr
    walk_at "rd"
    refine iteD (fun h => ?_) (fun h => ?_)
    · walk_at "rd"
      intro p hp
      have ne : a ≠ p := fun z => by rw [← z, e] at hp; cases hp
      walk_at "rd"
      exact k (x % n) _ (Int.emod_nonneg _ (by omega)) (Int.emod_lt_of_pos _ hn) ⟨_, _, upd_same, Int.ediv_nonneg hx (by omega), hy, hy2⟩ (fun b o nb hb => by rw [upd_ne nb]; exact same_upd hp b o hb)
    · walk_at "rd"
      exact k _ _ (Int.emod_nonneg _ (by omega)) (Int.emod_lt_of_pos _ hn) ⟨_, _, upd_same, hx, by omega, by omega⟩ But.set
/-- called with the pot and a list apart: one of the list -/
def spPick : Sp := fun vs H Q _ => ∃ (a b : Addr) (xs : List V), vs = [.ref a, .ref b] ∧ Pot H a ∧ H b = some (.lst xs) ∧ b ≠ a ∧ 0 < xs.length ∧ xs.length < 1000 ∧ ∀ (v : V) (H' : Hp), v ∈ xs → Pot H' a → But a H H' → Q v H'
theorem ok_Lpick (T : Txt K mg) : FnOk P w K mg base CX0 2 T.f_Lpick T.fd_Lpick ["_law_pot_here", "_law_some"] (spPick) := by
  have G_Ldraw := ok_Ldraw (P := P) (w := w) (base := base) T
  refine T.F_Lpick.ok sc_Lpick (fun vs H Q E h => ?_) (fun cdv A outer s H vs Q E hr h => ?_)
  · obtain ⟨a, b, xs, rfl, hp, hb, ne, h0, hx, k⟩ := h; rfl
  · obtain ⟨a, b, xs, rfl, hp, hb, ne, h0, hx, k⟩ := h
    refine ⟨_, (pss_one (ps_ret (pe_ix ix_list (pv 1) (pe_call G_Ldraw (hr.mono (by decide)) rfl T.g_Ldraw T.F_Ldraw.kp T.b_Ldraw .nil pass0 (pa_cons (pv 0) (pa_cons (pe_callB call_len_list (by rfl) T.m_len (by decide +kernel) (pa_cons (pv 1) pa_nil)) pa_nil))) (fun _ _ => rfl)))), ?_⟩
    clear G_Ldraw
    clear hr
    walk_at "rd"
    intro d H' d0 d1 hp' bt
    obtain ⟨v, hv, hm⟩ := pick_at (xs := xs) d0 (by simpa using d1)
    have hb' := bt b _ ne hb
    walk_at "rd"
    exact k v H' hm hp' bt
abbrev P5 (l o : Addr) (n t : Int) (g : Addr) : List (Key × V) := [(Sum.inr "left", .ref l), (Sum.inr "outputs", .ref o), (Sum.inr "steps", .int n), (Sum.inr "timer", .int t), (Sum.inr "lines", .ref g)]
theorem ne_ib {ns : List Int} {bs : List Bool} (h : bs.length = 4) : ¬ ns.map V.int = bs.map V.bl := fun e => by
  match ns, bs, h, e with
  | [], _ :: _, _, e => cases e
  | _ :: _, _ :: _, _, e => rw [List.map_cons, List.map_cons] at e; injection e with e1; cases e1
  | _, [], h, _ => cases h
/-- the law's own parts -/
structure PartsAt (H : Hp) (q l o g : Addr) (d : Dev) : Prop where
  dk : H q = some (.dK (P5 l o d.n d.tm g))
  lf : H l = some (.lst (d.left.map V.int))
  ou : H o = some (.lst (d.outs.map V.int))
  li : H g = some (.lst (d.ln.map V.bl))
  gl : d.ln.length = 4
theorem PartsAt.same {H H' : Hp} {q l o g : Addr} {d : Dev} (h : PartsAt H q l o g d) (s : Same H H') : PartsAt H' q l o g d := ⟨s _ _ h.dk, s _ _ h.lf, s _ _ h.ou, s _ _ h.li, h.gl⟩
theorem PartsAt.ne {H : Hp} {q l o g : Addr} {d : Dev} (h : PartsAt H q l o g d) : l ≠ g ∧ o ≠ g ∧ l ≠ q ∧ o ≠ q ∧ g ≠ q := by
  refine ⟨fun z => ?_, fun z => ?_, fun z => ?_, fun z => ?_, fun z => ?_⟩
  · have a := h.lf; rw [z, h.li] at a; injection a with a; injection a with a; exact ne_ib h.gl a.symm
  · have a := h.ou; rw [z, h.li] at a; injection a with a; injection a with a; exact ne_ib h.gl a.symm
  · have a := h.lf; rw [z, h.dk] at a; cases a
  · have a := h.ou; rw [z, h.dk] at a; cases a
  · have a := h.li; rw [z, h.dk] at a; cases a
theorem dg1 {H : Hp} {q l o g : Addr} {d : Dev} (h : PartsAt H q l o g d) : DGet H q (.str "left") (some (.ref l)) := DGet.k (k := Sum.inr "left") h.dk
theorem dg2 {H : Hp} {q l o g : Addr} {d : Dev} (h : PartsAt H q l o g d) : DGet H q (.str "outputs") (some (.ref o)) := DGet.k (k := Sum.inr "outputs") h.dk
theorem dg3 {H : Hp} {q l o g : Addr} {d : Dev} (h : PartsAt H q l o g d) : DGet H q (.str "steps") (some (.int d.n)) := DGet.k (k := Sum.inr "steps") h.dk
theorem dg4 {H : Hp} {q l o g : Addr} {d : Dev} (h : PartsAt H q l o g d) : DGet H q (.str "timer") (some (.int d.tm)) := DGet.k (k := Sum.inr "timer") h.dk
theorem dg5 {H : Hp} {q l o g : Addr} {d : Dev} (h : PartsAt H q l o g d) : DGet H q (.str "lines") (some (.ref g)) := DGet.k (k := Sum.inr "lines") h.dk
theorem dput1 {H : Hp} {q l o g : Addr} {d : Dev} (h : PartsAt H q l o g d) (l' : Addr) : DPut H q (.str "left") (.ref l') (upd H q (.dK (P5 l' o d.n d.tm g))) := DPut.k (k := Sum.inr "left") h.dk (size_lt (show 5 ≤ 10000 by decide))
theorem dput2 {H : Hp} {q l o g : Addr} {d : Dev} (h : PartsAt H q l o g d) (o' : Addr) : DPut H q (.str "outputs") (.ref o') (upd H q (.dK (P5 l o' d.n d.tm g))) := DPut.k (k := Sum.inr "outputs") h.dk (size_lt (show 5 ≤ 10000 by decide))
theorem dput3 {H : Hp} {q l o g : Addr} {d : Dev} (h : PartsAt H q l o g d) (n : Int) : DPut H q (.str "steps") (.int n) (upd H q (.dK (P5 l o n d.tm g))) := DPut.k (k := Sum.inr "steps") h.dk (size_lt (show 5 ≤ 10000 by decide))
theorem dput4 {H : Hp} {q l o g : Addr} {d : Dev} (h : PartsAt H q l o g d) (t : Int) : DPut H q (.str "timer") (.int t) (upd H q (.dK (P5 l o d.n t g))) := DPut.k (k := Sum.inr "timer") h.dk (size_lt (show 5 ≤ 10000 by decide))
theorem PartsAt.put1 {H : Hp} {q l o g l' : Addr} {d : Dev} (h : PartsAt H q l o g d) {ns : List Int} (hl : H l' = some (.lst (ns.map V.int))) : PartsAt (upd H q (.dK (P5 l' o d.n d.tm g))) q l' o g { d with left := ns } := by
  obtain ⟨_, _, n3, n4, n5⟩ := h.ne
  have n6 : l' ≠ q := fun z => by rw [z, h.dk] at hl; cases hl
  exact ⟨upd_same, by rw [upd_ne n6]; exact hl, by rw [upd_ne n4]; exact h.ou, by rw [upd_ne n5]; exact h.li, h.gl⟩
theorem PartsAt.put2 {H : Hp} {q l o g o' : Addr} {d : Dev} (h : PartsAt H q l o g d) {ns : List Int} (hl : H o' = some (.lst (ns.map V.int))) : PartsAt (upd H q (.dK (P5 l o' d.n d.tm g))) q l o' g { d with outs := ns } := by
  obtain ⟨_, _, n3, n4, n5⟩ := h.ne
  have n6 : o' ≠ q := fun z => by rw [z, h.dk] at hl; cases hl
  exact ⟨upd_same, by rw [upd_ne n3]; exact h.lf, by rw [upd_ne n6]; exact hl, by rw [upd_ne n5]; exact h.li, h.gl⟩
theorem PartsAt.put34 {H : Hp} {q l o g : Addr} {d : Dev} (h : PartsAt H q l o g d) (n t : Int) : PartsAt (upd H q (.dK (P5 l o n t g))) q l o g { d with n := n, tm := t } := by
  obtain ⟨_, _, n3, n4, n5⟩ := h.ne
  exact ⟨upd_same, by rw [upd_ne n3]; exact h.lf, by rw [upd_ne n4]; exact h.ou, by rw [upd_ne n5]; exact h.li, h.gl⟩
theorem PartsAt.put5 {H : Hp} {q l o g : Addr} {d : Dev} (h : PartsAt H q l o g d) (j : Nat) (b : Bool) : PartsAt (upd H g (.lst ((d.ln.map V.bl).set j (.bl b)))) q l o g { d with ln := d.ln.set j b } := by
  obtain ⟨n1, n2, _, _, n5⟩ := h.ne
  exact ⟨by rw [upd_ne (Ne.symm n5)]; exact h.dk, by rw [upd_ne n1]; exact h.lf, by rw [upd_ne n2]; exact h.ou, by rw [upd_same, List.map_set], by simpa using h.gl⟩
def sp_Ltold (K : PySem.W.Frag) : Sp := fun vs H Q _ => ∃ (q l o g : Addr) (d : Dev), vs = [.ref q] ∧ PartsAt H q l o g d ∧ ∀ (p : Addr) (H' : Hp), Dp K H' (.ref p) (toldD d) → Same H H' → Q (.ref p) H'
theorem ok_Ltold (T : Txt K mg) : FnOk P w K mg base CX0 1 T.f_Ltold T.fd_Ltold ["_law_parts"] (sp_Ltold K) := by
  refine T.F_Ltold.ok sc_Ltold (fun vs H Q E h => ?_) (fun cdv A outer s H vs Q E hr h => ?_)
  · obtain ⟨q, l, o, g, d, rfl, hd, k⟩ := h; rfl
  · obtain ⟨q, l, o, g, d, rfl, hd, k⟩ := h
    refine ⟨_, (pss_cons (ps_setLc (i := 1) (own := [("_law_line", 2)]) (g := gName 2) (tt := tTest (tOp (rIxL K) (tDGet (tVar 0) (tC (.str "lines"))) (tVar 2))) rfl sc_Ltold.nd rfl rfl (sw_true rfl rfl rfl (by decide +kernel)) (pi_range1 rfl T.m_range (pa_cons pe_int pa_nil)) (blkOk_by (N := ["_law_parts", "_law_lines", "_law_line"]) (sc := defScope s_Ltold) (by decide +kernel)) (fun _ _ _ _ _ => pg_name (i := 2) sc_Ltold.nd rfl (Or.inl rfl)) (fun _ _ _ _ _ => pts_one (pt_val (pe_ix ix_list (pe_dget (hu_of hr) (pv 0) pe_str (fun _ _ => rfl)) (pv 2) (fun _ _ => rfl)))) (fun _ _ _ _ _ => (pv 2)))
        (pss_one (ps_ret (pe_tup (pa_cons (pe_dget (hu_of hr) (pv 0) pe_str (fun _ _ => rfl)) (pa_cons (pe_dget (hu_of hr) (pv 0) pe_str (fun _ _ => rfl)) (pa_cons (pe_dget (hu_of hr) (pv 0) pe_str (fun _ _ => rfl)) (pa_cons (pe_dget (hu_of hr) (pv 0) pe_str (fun _ _ => rfl)) (pa_cons (pv 1) pa_nil))))))))), ?_⟩
    clear hr
    walk_at "rd"
    intro D hD
    refine lc_range (n := 4) (fun i H' => Stop (Same H H' ∧ H' D = some (.lst (litV d.ln i)))) ⟨⟨same_upd hD, upd_same⟩⟩ (fun i H' hi h => ?_) (fun H' h => ?_)
    · have h := h.h
      have hd2 := hd.same h.1
      have hg2 := hd2.li
      have g5 := dg5 hd2
      have ha := at4 (d := d) hd.gl hi
      have e0 : (0 : Int) + (i : Int) = (i : Int) := by omega
      rw [e0]
      have hD2 := h.2
      have lt : (litV d.ln i).length < sizeLine := size_lt (by unfold litV litI; have := lit_len d.ln i; simp; omega)
      cases hb : d.ln.getD i false with
      | false =>
        rw [hb] at ha
        walk_at "rd"
        exact ⟨⟨h.1, by rw [h.2, litV_succ, hb]; simp⟩⟩
      | true =>
        rw [hb] at ha
        walk_at "rd"
        exact ⟨⟨same_set h.1 hD, by rw [upd_same, litV_succ, hb]; rfl⟩⟩
    · obtain ⟨s1, e1⟩ := h.h
      have hd2 := hd.same s1
      have g1 := dg1 hd2
      have g2 := dg2 hd2
      have g3 := dg3 hd2
      have g4 := dg4 hd2
      walk_at "rd"
      intro t ht
      refine k t _ (.tup (SqT.of upd_same) (.cons (.lst (SqL.of (old_upd ht hd2.lf)) (dp_ints _)) (.cons (.lst (SqL.of (old_upd ht hd2.ou)) (dp_ints _)) (.cons (.int _) (.cons (.int _) (.cons (.lst (SqL.of (old_upd ht e1)) (dp_ints _)) .nil)))))) (L2.Same.trans s1 (same_upd ht))
theorem cut_tail (x : V) (xs : List V) : cutV (x :: xs) (some 1) none = xs := by
  have e1 : HT.sIx (x :: xs).length 0 (some 1) = 1 := by simp [HT.sIx]
  have e2 : HT.sIx (x :: xs).length (x :: xs).length none = (x :: xs).length := by simp [HT.sIx]
  unfold cutV
  rw [e1, e2]
  simp
def sp_Lread : Sp := fun vs H Q _ => ∃ (q l o g : Addr) (d : Dev) (i : Int), vs = [.ref q, .int i] ∧ PartsAt H q l o g d ∧ Plc i ∧ ∀ (l' : Addr) (H' : Hp), (l' = l ∨ H l' = none) → PartsAt H' q l' o g (rdN d i) → But q H H' → Q (.int (rdV d i)) H'
theorem ok_Lread (T : Txt K mg) : FnOk P w K mg base CX0 1 T.f_Lread T.fd_Lread ["_law_parts", "_law_place"] (sp_Lread) := by
  refine T.F_Lread.ok sc_Lread (fun vs H Q E h => ?_) (fun cdv A outer s H vs Q E hr h => ?_)
  · obtain ⟨q, l, o, g, d, i, rfl, hd, hi, k⟩ := h; rfl
  · obtain ⟨q, l, o, g, d, i, rfl, hd, hi, k⟩ := h
    refine ⟨_, (pss_cons (ps_if (pt_cmpR op_eq (pv 1) pe_int (nomark _))
          (pss_cons (ps_set (i := 2) sc_Lread.nd rfl (Or.inl rfl) (pe_ifExp (pt_cmpR (op_neNil hr.units) (pe_dget (hu_of hr) (pv 0) pe_str (fun _ _ => rfl)) (pe_lst pa_nil) (nomark _)) (pe_ix ix_list (pe_dget (hu_of hr) (pv 0) pe_str (fun _ _ => rfl)) pe_int (fun _ _ => rfl)) pe_int))
          (pss_cons (ps_dput (hu_of hr) (pv 0) pe_str (pe_slice sl_list (pe_dget (hu_of hr) (pv 0) pe_str (fun _ _ => rfl)) (po_some pe_int) po_none) rfl)
          (pss_one (ps_ret (pv 2)))))
          pss_nil)
        (pss_cons (ps_if (pt_cmpR op_eq (pv 1) pe_int (nomark _))
          (pss_one (ps_ret (pe_callB call_len_list (by rfl) T.m_len (by decide +kernel) (pa_cons (pe_dget (hu_of hr) (pv 0) pe_str (fun _ _ => rfl)) pa_nil))))
          pss_nil)
        (pss_one (ps_ret (pe_ifExp (pt_cmpR op_eq (pv 1) pe_int (nomark _)) (pe_dget (hu_of hr) (pv 0) pe_str (fun _ _ => rfl)) (pe_dget (hu_of hr) (pv 0) pe_str (fun _ _ => rfl))))))), ?_⟩
    clear hr
    have g1 := dg1 hd
    have g3 := dg3 hd
    have g4 := dg4 hd
    have hl := hd.lf
    rcases hi with rfl | rfl | rfl | rfl
    · walk_at "rd"
      intro t ht
      have hd2 := hd.same (same_upd (o := .lst []) ht)
      have hl2 := hd2.lf
      have g1' := dg1 hd2
      walk_at "rd"
      cases hL : d.left with
      | nil =>
        rw [hL] at hl2
        walk_at "rd"
        intro p hp
        have hd3 := hd2.same (same_upd (o := .lst (cutV ([] : List V) (some 1) none)) hp)
        have dp := dput1 hd3 p
        walk_at "rd"
        have hd4 := hd3.put1 (ns := []) (upd_same (H := upd H t (.lst [])) (o := .lst (cutV ([] : List V) (some 1) none)))
        refine qint (k p _ (.inr (L2.Same.free (same_upd ht) hp)) ?_ (((But.same (same_upd ht)).trans (But.same (same_upd hp))).trans But.set)) (by show (0 : Int) = d.left.headD 0; rw [hL]; rfl)
        show PartsAt _ q p o g { d with left := d.left.tail }
        rw [hL]
        exact hd4
      | cons z r =>
        rw [hL] at hl2
        have ha : atI ((z :: r).map V.int) 0 = some (.int z) := atI_nat (j := 0) rfl
        walk_at "rd"
        intro p hp
        have hd3 := hd2.same (same_upd (o := .lst (cutV ((z :: r).map V.int) (some 1) none)) hp)
        have dp := dput1 hd3 p
        walk_at "rd"
        have ec : cutV ((z :: r).map V.int) (some 1) none = r.map V.int := cut_tail _ _
        have hd4 := hd3.put1 (l' := p) (ns := r) (by rw [upd_same, ec])
        refine qint (k p _ (.inr (L2.Same.free (same_upd ht) hp)) ?_ (((But.same (same_upd ht)).trans (But.same (same_upd hp))).trans But.set)) (by show z = d.left.headD 0; rw [hL]; rfl)
        show PartsAt _ q p o g { d with left := d.left.tail }
        rw [hL]
        exact hd4
    · walk_at "rd"
      exact qint (k l H (.inl rfl) hd (But.refl _)) (by show _ = (d.left.length : Int); simp)
    · walk_at "rd"
      exact k l H (.inl rfl) hd (But.refl _)
    · walk_at "rd"
      exact k l H (.inl rfl) hd (But.refl _)
def hits (d : Dev) (m : Int) (i : Nat) : List Int := ((List.range i).filter (hit d m)).map fun (j : Nat) => (j : Int)
theorem hits_succ (d : Dev) (m : Int) (i : Nat) : hits d m (i + 1) = hits d m i ++ (if hit d m i then [(i : Int)] else []) := by
  unfold hits
  rw [List.range_succ, List.filter_append, List.filter_cons, List.map_append]
  cases hit d m i <;> rfl
theorem hits_len (d : Dev) (m : Int) (i : Nat) : (hits d m i).length ≤ i := by
  unfold hits
  have := List.length_filter_le (hit d m) (List.range i)
  rw [List.length_range] at this
  simpa using this
theorem hits_nil {d : Dev} {m : Int} (h : hits d m 4 = []) : dueV d m = .non := due_none fun j hj => by
  cases e : hit d m j with
  | false => rfl
  | true =>
    have : (j : Int) ∈ hits d m 4 := List.mem_map.mpr ⟨j, List.mem_filter.mpr ⟨List.mem_range.mpr hj, e⟩, rfl⟩
    rw [h] at this
    cases this
theorem hits_cons {d : Dev} {m z : Int} {r : List Int} (h : hits d m 4 = z :: r) : dueV d m = .int z := by
  unfold dueV
  unfold hits at h
  cases e : (List.range 4).filter (hit d m) with
  | nil => rw [e] at h; cases h
  | cons y t =>
    rw [e, List.map_cons] at h
    injection h with h1 h2
    have : (List.range 4).find? (hit d m) = some y := by
      rw [← List.head?_filter, e]; rfl
    rw [this, ← h1]
theorem bit4 {m : Int} {i : Nat} (h : i < 4) : atI [V.int (m % 2), V.int (m / 2 % 2), V.int (m / 4 % 2), V.int (m / 8 % 2)] (i : Int) = some (.int (m / 2 ^ i % 2)) := atI_nat (by
  match i, h with
  | 0, _ => simp
  | 1, _ => rfl
  | 2, _ => rfl
  | 3, _ => rfl)
def sp_Ldue : Sp := fun vs H Q _ => ∃ (q l o g : Addr) (d : Dev) (m : Int), vs = [.ref q, .int m] ∧ PartsAt H q l o g d ∧ (0 ≤ m ∧ m < 65536) ∧ ∀ H', Same H H' → Q (dueV d m) H'
theorem ok_Ldue (T : Txt K mg) : FnOk P w K mg base CX0 1 T.f_Ldue T.fd_Ldue ["_law_parts", "_law_mask"] (sp_Ldue) := by
  refine T.F_Ldue.ok sc_Ldue (fun vs H Q E h => ?_) (fun cdv A outer s H vs Q E hr h => ?_)
  · obtain ⟨q, l, o, g, d, m, rfl, hd, hm, k⟩ := h; rfl
  · obtain ⟨q, l, o, g, d, m, rfl, hd, hm, k⟩ := h
    refine ⟨_, (pss_cons (ps_set (i := 2) sc_Ldue.nd rfl (Or.inr rfl) (pe_lst (pa_cons (pe_op op_mod (pv 1) pe_int) (pa_cons (pe_op op_mod (pe_op op_fdiv (pv 1) pe_int) pe_int) (pa_cons (pe_op op_mod (pe_op op_fdiv (pv 1) pe_int) pe_int) (pa_cons (pe_op op_mod (pe_op op_fdiv (pv 1) pe_int) pe_int) pa_nil))))))
        (pss_cons (ps_setLc (i := 3) (own := [("_law_line", 4)]) (g := gName 4) (tt := tAnd (tTest (tOp (rIxL K) (tDGet (tVar 0) (tC (.str "lines"))) (tVar 4))) (tTest (tOp rEq (tOp (rIxL K) (tVar 2) (tVar 4)) (tC (.int 1))))) rfl sc_Ldue.nd rfl rfl (sw_true rfl rfl rfl (by decide +kernel)) (pi_range1 rfl T.m_range (pa_cons pe_int pa_nil)) (blkOk_by (N := ["_law_parts", "_law_mask", "_law_bits", "_law_lines", "_law_line"]) (sc := defScope s_Ldue) (by decide +kernel)) (fun _ _ _ _ _ => pg_name (i := 4) sc_Ldue.nd rfl (Or.inl rfl)) (fun _ _ _ _ _ => pts_one (PW.pt (pw_and (pt_val (pe_ix ix_list (pe_dget (hu_of hr) (pv 0) pe_str (fun _ _ => rfl)) (pv 4) (fun _ _ => rfl))) (pw_and1 (pt_cmpR op_eq (pe_ix ix_list (pv 2) (pv 4) (fun _ _ => rfl)) pe_int (nomark _)))))) (fun _ _ _ _ _ => (pv 4)))
        (pss_one (ps_ret (pe_ifExp (pt_cmpR (op_neNil hr.units) (pv 3) (pe_lst pa_nil) (nomark _)) (pe_ix ix_list (pv 3) pe_int (fun _ _ => rfl)) pe_non))))), ?_⟩
    clear hr
    walk_at "rd"
    intro p hp
    walk_at "rd"
    intro D hD
    have hb : (upd H p (.lst [V.int (m % 2), V.int (m / 2 % 2), V.int (m / 4 % 2), V.int (m / 8 % 2)])) p = some (.lst [V.int (m % 2), V.int (m / 2 % 2), V.int (m / 4 % 2), V.int (m / 8 % 2)]) := upd_same
    have s0 : Same H (upd H p (.lst [V.int (m % 2), V.int (m / 2 % 2), V.int (m / 4 % 2), V.int (m / 8 % 2)])) := same_upd hp
    generalize (upd H p (.lst [V.int (m % 2), V.int (m / 2 % 2), V.int (m / 4 % 2), V.int (m / 8 % 2)])) = H0 at hb s0 hD ⊢
    refine lc_range (n := 4) (fun i H' => Stop (Same H0 H' ∧ H' D = some (.lst ((hits d m i).map V.int)))) ⟨⟨same_upd hD, upd_same⟩⟩ (fun i H' hi h => ?_) (fun H' h => ?_)
    · have h := h.h
      have hd2 := hd.same (L2.Same.trans s0 h.1)
      have hg2 := hd2.li
      have g5 := dg5 hd2
      have hb2 := h.1 _ _ hb
      have ha := at4 (d := d) hd.gl hi
      have hB := bit4 (m := m) hi
      have e0 : (0 : Int) + (i : Int) = (i : Int) := by omega
      rw [e0]
      have hD2 := h.2
      have lt : ((hits d m i).map V.int).length < sizeLine := size_lt (by have := hits_len d m i; simp; omega)
      cases hb : d.ln.getD i false with
      | false =>
        rw [hb] at ha
        walk_at "rd"
        exact ⟨⟨h.1, by rw [h.2, hits_succ]; unfold hit; rw [hb]; simp⟩⟩
      | true =>
        rw [hb] at ha
        walk_at "rd"
        refine iteD (fun h2 => ?_) (fun h2 => ?_)
        · have e2 : hit d m i = true := by unfold hit; rw [hb, Bool.true_and]; exact decide_eq_true (V.int.inj h2)
          walk_at "rd"
          exact ⟨⟨same_set h.1 hD, by rw [upd_same, hits_succ, e2, List.map_append]; rfl⟩⟩
        · have e2 : hit d m i = false := by unfold hit; rw [hb, Bool.true_and]; exact decide_eq_false fun z => h2 (congrArg V.int z)
          walk_at "rd"
          exact ⟨⟨h.1, by rw [h.2, hits_succ, e2]; simp⟩⟩
    · obtain ⟨s1, e1⟩ := h.h
      have hd2 := hd.same (L2.Same.trans s0 s1)
      have sA := L2.Same.trans s0 s1
      have dL : SqL K H' D ((hits d m 4).map V.int) := SqL.of e1
      walk_at "rd"
      intro t ht
      walk_at "rd"
      cases hL : hits d m 4 with
      | nil =>
        rw [hits_nil hL] at k
        walk_at "rd"
        exact k _ (L2.Same.trans sA (same_upd ht))
      | cons z r =>
        rw [hits_cons hL] at k
        rw [hL] at e1 dL
        have ha : atI ((z :: r).map V.int) 0 = some (.int z) := atI_nat (j := 0) rfl
        walk_at "rd"
        exact k _ (L2.Same.trans sA (same_upd ht))
end
end K32

set_option Elab.async false
set_option linter.all false
set_option maxRecDepth 100000
set_option maxHeartbeats 8000000

namespace K32
open PySem PySem.Spec PyProof.Rows L2 Hx 
local macro_rules | `(tactic| walk_at "sm") => `(tactic| repeat' (first | assumption | apply Hx.Same.upd | exact L2.Same.refl _ | apply same_trans'))
local macro_rules | `(tactic| walk_at "hp") => `(tactic| repeat' (first | assumption | exact upd_same | apply old_upd | apply same_at))
local macro_rules | `(tactic| walk_at "rd") => `(tactic| repeat' (first | rfl | apply Exists.intro | apply And.intro | refine iteT ?_ | refine iteF ?_ | exact upd_same | exact SqL.of (by assumption) | exact SqL.of upd_same | exact SqT.of upd_same | exact SqT.of (by assumption) | ((with_reducible show (_ : Int) < _); omega) | ((with_reducible show (_ : Int) ≤ _); omega) | (show (_ : Prop); assumption) | exact Or.inl ⟨_, by assumption, rfl⟩ | exact Or.inl ⟨rfl, _, SqL.of (by assumption)⟩ | exact Or.inl ⟨rfl, _, SqL.of upd_same⟩ | apply old_upd | apply Hx.SqL.new | apply tyl_new | apply Pot.new | exact same_at (by assumption) (by assumption) | exact Or.inl (SqL.of (by assumption)) | exact Or.inl (by assumption) | exact Or.inl (SqL.of upd_same) | exact size_le (Nat.le_of_ble_eq_true rfl) | exact Nat.le_of_ble_eq_true rfl | exact True.intro | exact Or.inl rfl | exact Or.inr rfl | (show (_ : Prop); omega) | (show (_ : Prop); dsimp only; omega) | exact mulw64 (by omega) (by omega) | exact mulw64 (by (try dsimp only); omega) (by (try dsimp only); omega)))

section
variable {P : Program} {w : World} {K : PySem.W.Frag} {mg : Str → Option Value} {base : Heap}
/-- p the pot, nu the inputs, q the law's parts with the lists pl, po, pg; x the devices with l, o, g; d what these hold, e what the law's parts hold; at most T steps, outputs -/
structure Core (C : Addr) (H : Hp) (p nu q x l o g pl po pg : Addr) (ns : List Int) (d e : Dev) (T : Nat) : Prop where
  pot : Pot H p
  num : H nu = some (.lst (ns.map V.int))
  dev : DevAt C H x l o g d
  par : PartsAt H q pl po pg e
  dis : ∀ a ∈ [p, nu, q, pl, po, pg], a ∉ [x, l, o, g]
  pd : p ∉ [nu, q, pl, po, pg]
  nT : d.n ≤ T
  oT : d.outs.length ≤ T
theorem Core.drawn {C : Addr} {H H' : Hp} {p nu q x l o g pl po pg : Addr} {ns : List Int} {d e : Dev} {T : Nat} (c : Core C H p nu q x l o g pl po pg ns d e T) (hp : Pot H' p) (b : But p H H') : Core C H' p nu q x l o g pl po pg ns d e T := by
  have n1 : ∀ a ∈ [nu, q, pl, po, pg], a ≠ p := fun a h z => c.pd (by rw [← z]; exact h)
  have n2 : ∀ a ∈ [x, l, o, g], a ≠ p := fun a h z => c.dis p (by simp) (by rw [← z]; exact h)
  obtain ⟨dx, hx⟩ := c.dev.ob
  exact ⟨hp, b _ _ (n1 _ (by simp)) c.num, ⟨⟨dx, b _ _ (n2 _ (by simp)) hx⟩, b _ _ (n2 _ (by simp)) c.dev.lf, b _ _ (n2 _ (by simp)) c.dev.ou, b _ _ (n2 _ (by simp)) c.dev.li, c.dev.lo, c.dev.lg, c.dev.og, c.dev.ll, c.dev.ol, c.dev.gl, c.dev.wl, c.dev.nb, c.dev.tb⟩,
    ⟨b _ _ (n1 _ (by simp)) c.par.dk, b _ _ (n1 _ (by simp)) c.par.lf, b _ _ (n1 _ (by simp)) c.par.ou, b _ _ (n1 _ (by simp)) c.par.li, c.par.gl⟩, c.dis, c.pd, c.nT, c.oT⟩
theorem Core.same {C : Addr} {H H' : Hp} {p nu q x l o g pl po pg : Addr} {ns : List Int} {d e : Dev} {T : Nat} (c : Core C H p nu q x l o g pl po pg ns d e T) (s : Same H H') : Core C H' p nu q x l o g pl po pg ns d e T := c.drawn (c.pot.same s) (But.same s)
theorem Core.out {C : Addr} {H H' : Hp} {p nu q x l o g pl po pg : Addr} {ns : List Int} {d e d' : Dev} {T T' : Nat} (c : Core C H p nu q x l o g pl po pg ns d e T) (hd : DevAt C H' x l o g d') (b : Out [x, l, o, g] H H') (h1 : d'.n ≤ T') (h2 : d'.outs.length ≤ T') : Core C H' p nu q x l o g pl po pg ns d' e T' := by
  have n := c.dis
  obtain ⟨y, z, ep, r⟩ := c.pot.ex
  exact ⟨⟨y, z, b _ _ (n _ (by simp)) ep, r⟩, b _ _ (n _ (by simp)) c.num, hd, ⟨b _ _ (n _ (by simp)) c.par.dk, b _ _ (n _ (by simp)) c.par.lf, b _ _ (n _ (by simp)) c.par.ou, b _ _ (n _ (by simp)) c.par.li, c.par.gl⟩, c.dis, c.pd, h1, h2⟩
theorem Core.parts {C : Addr} {H H' : Hp} {p nu q x l o g pl po pg pl' po' : Addr} {ns : List Int} {d e e' : Dev} {T : Nat} (c : Core C H p nu q x l o g pl po pg ns d e T) (hp : PartsAt H' q pl' po' pg e')
    (k : ∀ b u, b ≠ q → b ≠ pg → H b = some u → H' b = some u) (hl : pl' = pl ∨ H pl' = none) (ho : po' = po ∨ H po' = none) : Core C H' p nu q x l o g pl' po' pg ns d e' T := by
  obtain ⟨y, z, ep, r⟩ := c.pot.ex
  obtain ⟨dx, hx⟩ := c.dev.ob
  have pq : p ≠ q := fun z => c.pd (by rw [z]; simp)
  have pg' : p ≠ pg := fun z => c.pd (by rw [z]; simp)
  have nq : nu ≠ q := fun z => by have h := c.num; rw [z, c.par.dk] at h; cases h
  have ng : nu ≠ pg := fun z => by have h := c.num; rw [z, c.par.li] at h; injection h with h; injection h with h; exact ne_ib c.par.gl h.symm
  have m : ∀ a ∈ [x, l, o, g], a ≠ q ∧ a ≠ pg := fun a h => ⟨fun z => c.dis q (by simp) (by rw [← z]; exact h), fun z => c.dis pg (by simp) (by rw [← z]; exact h)⟩
  have kd : ∀ a ∈ [x, l, o, g], ∀ u, H a = some u → H' a = some u := fun a h u e => k a u (m a h).1 (m a h).2 e
  have old : ∀ a ∈ [x, l, o, g], H a ≠ none := fun a h => by
    simp only [List.mem_cons, List.not_mem_nil, or_false] at h
    rcases h with rfl | rfl | rfl | rfl
    · rw [hx]; simp
    · rw [c.dev.lf]; simp
    · rw [c.dev.ou]; simp
    · rw [c.dev.li]; simp
  have fr : ∀ {a b : Addr}, (a = b ∨ H a = none) → b ∉ [x, l, o, g] → a ∉ [x, l, o, g] := fun {a b} h n => by
    rcases h with rfl | h
    · exact n
    · exact fun z => old a z h
  have fp : ∀ {a b : Addr}, (a = b ∨ H a = none) → p ≠ b → p ≠ a := fun {a b} h n => by
    rcases h with rfl | h
    · exact n
    · exact ne_of_none ep h
  refine ⟨⟨y, z, k _ _ pq pg' ep, r⟩, k _ _ nq ng c.num, ⟨⟨dx, kd _ (by simp) _ hx⟩, kd _ (by simp) _ c.dev.lf, kd _ (by simp) _ c.dev.ou, kd _ (by simp) _ c.dev.li, c.dev.lo, c.dev.lg, c.dev.og, c.dev.ll, c.dev.ol, c.dev.gl, c.dev.wl, c.dev.nb, c.dev.tb⟩, hp, fun a h => ?_, ?_, c.nT, c.oT⟩
  · simp only [List.mem_cons, List.not_mem_nil, or_false] at h
    rcases h with rfl | rfl | rfl | rfl | rfl | rfl
    · exact c.dis _ (by simp)
    · exact c.dis _ (by simp)
    · exact c.dis _ (by simp)
    · exact fr hl (c.dis _ (by simp))
    · exact fr ho (c.dis _ (by simp))
    · exact c.dis _ (by simp)
  · have h := c.pd
    simp only [List.mem_cons, List.not_mem_nil, or_false, not_or] at h ⊢
    exact ⟨h.1, h.2.1, fp hl h.2.2.1, fp ho h.2.2.2.1, h.2.2.2.2⟩
theorem due_cases (d : Dev) (m : Int) : dueV d m = .non ∨ ∃ i : Nat, i < 4 ∧ d.ln.getD i false = true ∧ dueV d m = .int (i : Int) := by
  unfold dueV
  cases e : (List.range 4).find? (hit d m) with
  | none => exact .inl rfl
  | some i =>
    have h1 := List.find?_some e
    have h2 := List.mem_of_find?_eq_some e
    unfold hit at h1
    rw [Bool.and_eq_true] at h1
    exact .inr ⟨i, List.mem_range.mp h2, h1.1, rfl⟩
def sp_deed (C : Addr) : Sp := fun vs H Q _ => ∃ (p nu q x l o g pl po pg : Addr) (ns : List Int) (d : Dev) (T : Nat), vs = [.ref p, .ref x, .ref q] ∧ Core C H p nu q x l o g pl po pg ns d d T ∧ T < 20 ∧
  ∀ (H' : Hp) (pl' po' : Addr) (d' : Dev), Core C H' p nu q x l o g pl' po' pg ns d' d' (T + 1) → Q (.bl true) H'
theorem ok_Ldeed (T : Txt K mg) : FnOk P w K mg base CX0 6 T.f_Ldeed T.fd_Ldeed ["_law_pot_here", "_law_devices", "_law_parts"] (sp_deed T.C_Devices) := by
  have G_Ldraw := ok_Ldraw (P := P) (w := w) (base := base) T
  have G_Lpick := ok_Lpick (P := P) (w := w) (base := base) T
  have G_Devices_read := ok_Devices_read (P := P) (w := w) (base := base) T
  have G_Lread := ok_Lread (P := P) (w := w) (base := base) T
  have G_Devices_write := ok_Devices_write (P := P) (w := w) (base := base) T
  have G_Devices_raised := ok_Devices_raised (P := P) (w := w) (base := base) T
  have G_Ldue := ok_Ldue (P := P) (w := w) (base := base) T
  have G_Devices_due := ok_Devices_due (P := P) (w := w) (base := base) T
  have G_Devices_lowered := ok_Devices_lowered (P := P) (w := w) (base := base) T
  have G_Devices_counted := ok_Devices_counted (P := P) (w := w) (base := base) T
  refine T.F_Ldeed.ok sc_Ldeed (fun vs H Q E h => ?_) (fun cdv A outer s H vs Q E hr h => ?_)
  · obtain ⟨p, nu, q, x, l, o, g, pl, po, pg, ns, d, T', rfl, c, hT, k⟩ := h; rfl
  · obtain ⟨p, nu, q, x, l, o, g, pl, po, pg, ns, d, T', rfl, c, hT, k⟩ := h
    refine ⟨_, (pss_cons (ps_par (i := 3) (j := 4) rfl sc_Ldeed.nd rfl rfl (by decide) rfl rfl (pa_cons (pe_call G_Ldraw (hr.mono (by decide)) rfl T.g_Ldraw T.F_Ldraw.kp T.b_Ldraw .nil pass0 (pa_cons (pv 0) (pa_cons pe_int pa_nil))) (pa_cons (pe_call G_Lpick (hr.mono (by decide)) rfl T.g_Lpick T.F_Lpick.kp T.b_Lpick .nil pass0 (pa_cons (pv 0) (pa_cons (pe_lst (pa_cons pe_int (pa_cons pe_int (pa_cons pe_int (pa_cons pe_int pa_nil))))) pa_nil))) pa_nil)) (by rfl))
        (pss_cons (ps_if (pt_cmpR op_eq (pv 3) pe_int (nomark _))
          (pss_cons (ps_set (i := 5) sc_Ldeed.nd rfl (Or.inl rfl) (pe_methKA (pv 1) T.cl_Devices T.me_Devices_read G_Devices_read (hr.mono (by decide)) T.kb_Devices_read pass0 (pk_cons (pv 4) pk_nil)))
          (pss_one (ps_ret (pe_cmpR op_eq (pv 5) (pe_call G_Lread (hr.mono (by decide)) rfl T.g_Lread T.F_Lread.kp T.b_Lread .nil pass0 (pa_cons (pv 2) (pa_cons (pv 4) pa_nil))) (nomark _)))))
          pss_nil)
        (pss_cons (ps_if (pt_cmpR op_eq (pv 3) pe_int (nomark _))
          (pss_cons (ps_set (i := 6) sc_Ldeed.nd rfl (Or.inl rfl) (pe_call G_Lpick (hr.mono (by decide)) rfl T.g_Lpick T.F_Lpick.kp T.b_Lpick .nil pass0 (pa_cons (pv 0) (pa_cons (pe_lst (pa_cons pe_int (pa_cons (pe_op op_add (pe_dget (hu_of hr) (pv 2) pe_str (fun _ _ => rfl)) pe_int) (pa_cons (pe_op op_add (pe_dget (hu_of hr) (pv 2) pe_str (fun _ _ => rfl)) pe_int) (pa_cons (pe_call G_Ldraw (hr.mono (by decide)) rfl T.g_Ldraw T.F_Ldraw.kp T.b_Ldraw .nil pass0 (pa_cons (pv 0) (pa_cons pe_int pa_nil))) pa_nil))))) pa_nil))))
          (pss_cons (ps_if (pt_cmpR op_eq (pv 4) pe_int (nomark _))
            (pss_one (ps_dput (hu_of hr) (pv 2) pe_str (pe_op op_cat (pe_dget (hu_of hr) (pv 2) pe_str (fun _ _ => rfl)) (pe_lst (pa_cons (pv 6) pa_nil))) rfl))
            pss_nil)
          (pss_cons (ps_if (pt_cmpR op_eq (pv 4) pe_int (nomark _))
            (pss_one (ps_dput (hu_of hr) (pv 2) pe_str (pv 6) rfl))
            pss_nil)
          (pss_one (ps_ret (pe_cmpR op_isN (pe_methKA (pv 1) T.cl_Devices T.me_Devices_write G_Devices_write (hr.mono (by decide)) T.kbr_Devices_write pass0 (pk_cons (pv 6) (pk_cons (pv 4) pk_nil))) pe_non (nomark _)))))))
          pss_nil)
        (pss_cons (ps_if (pt_cmpR op_eq (pv 3) pe_int (nomark _))
          (pss_cons (ps_set (i := 7) sc_Ldeed.nd rfl (Or.inl rfl) (pe_call G_Ldraw (hr.mono (by decide)) rfl T.g_Ldraw T.F_Ldraw.kp T.b_Ldraw .nil pass0 (pa_cons (pv 0) (pa_cons pe_int pa_nil))))
          (pss_cons (ps_asg pe_bl (pg_sub (pe_dget (hu_of hr) (pv 2) pe_str (fun _ _ => rfl)) (pv 7) set_list))
          (pss_one (ps_ret (pe_cmpR op_isN (pe_meth (pv 1) T.cl_Devices T.me_Devices_raised G_Devices_raised (hr.mono (by decide)) T.b_Devices_raised .nil pass0 (pa_cons (pv 7) pa_nil)) pe_non (nomark _))))))
          pss_nil)
        (pss_cons (ps_if (pt_cmpR op_eq (pv 3) pe_int (nomark _))
          (pss_cons (ps_set (i := 8) sc_Ldeed.nd rfl (Or.inl rfl) (pe_call G_Lpick (hr.mono (by decide)) rfl T.g_Lpick T.F_Lpick.kp T.b_Lpick .nil pass0 (pa_cons (pv 0) (pa_cons (pe_lst (pa_cons pe_int (pa_cons pe_int (pa_cons pe_int (pa_cons pe_int (pa_cons pe_int (pa_cons pe_int (pa_cons pe_int (pa_cons (pe_call G_Ldraw (hr.mono (by decide)) rfl T.g_Ldraw T.F_Ldraw.kp T.b_Ldraw .nil pass0 (pa_cons (pv 0) (pa_cons pe_int pa_nil))) pa_nil))))))))) pa_nil))))
          (pss_cons (ps_set (i := 9) sc_Ldeed.nd rfl (Or.inl rfl) (pe_call G_Ldue (hr.mono (by decide)) rfl T.g_Ldue T.F_Ldue.kp T.b_Ldue .nil pass0 (pa_cons (pv 2) (pa_cons (pv 8) pa_nil))))
          (pss_cons (ps_if (PW.pt (pw_or (pt_cmpR op_ne (pe_meth (pv 1) T.cl_Devices T.me_Devices_due G_Devices_due (hr.mono (by decide)) T.b_Devices_due .nil pass0 (pa_cons (pv 8) pa_nil)) (pv 9) (nomark _)) (pw_or1 (pt_cmpR op_isN (pv 9) pe_non (nomark _)))))
            (pss_one (ps_ret (pe_cmpR op_eq (pe_methKA (pv 1) T.cl_Devices T.me_Devices_due G_Devices_due (hr.mono (by decide)) T.kb_Devices_due pass0 (pk_cons (pv 8) pk_nil)) (pv 9) (nomark _))))
            pss_nil)
          (pss_cons (ps_asg pe_bl (pg_sub (pe_dget (hu_of hr) (pv 2) pe_str (fun _ _ => rfl)) (pv 9) set_list))
          (pss_one (ps_ret (pe_cmpR op_isN (pe_meth (pv 1) T.cl_Devices T.me_Devices_lowered G_Devices_lowered (hr.mono (by decide)) T.b_Devices_lowered .nil pass0 (pa_cons (pv 9) pa_nil)) pe_non (nomark _))))))))
          pss_nil)
        (pss_cons (ps_dput (hu_of hr) (pv 2) pe_str (pe_op op_add (pe_dget (hu_of hr) (pv 2) pe_str (fun _ _ => rfl)) pe_int) rfl)
        (pss_cons (ps_if (pt_cmpR op_eq (pe_dget (hu_of hr) (pv 2) pe_str (fun _ _ => rfl)) (pe_dget (hu_of hr) (pv 2) pe_str (fun _ _ => rfl)) (nomark _))
          (pss_one (ps_asg pe_bl (pg_sub (pe_dget (hu_of hr) (pv 2) pe_str (fun _ _ => rfl)) pe_int set_list)))
          pss_nil)
        (pss_one (ps_ret (pe_cmpR op_isN (pe_meth0 (pv 1) T.cl_Devices T.me_Devices_counted G_Devices_counted (hr.mono (by decide)) T.b_Devices_counted .nil pass0) pe_non (nomark _))))))))))), ?_⟩
    clear G_Ldraw G_Lpick G_Devices_read G_Lread G_Devices_write G_Devices_raised G_Ldue G_Devices_due G_Devices_lowered G_Devices_counted
    clear hr
    have hpot := c.pot
    walk_at "rd"
    intro dw Hd w0 w1 hp1 b1
    replace c := c.drawn hp1 b1
    have hpot1 := c.pot
    walk_at "rd"
    intro t ht
    have tp := hpot1.ne ht
    walk_at "rd"
    intro v He hv hp2 b2
    obtain ⟨i, rfl, hi⟩ : ∃ i : Int, v = .int i ∧ Plc i := by
      simp only [List.mem_cons, List.not_mem_nil, or_false] at hv
      rcases hv with rfl | rfl | rfl | rfl
      · exact ⟨_, rfl, .inl rfl⟩
      · exact ⟨_, rfl, .inr (.inl rfl)⟩
      · exact ⟨_, rfl, .inr (.inr (.inl rfl))⟩
      · exact ⟨_, rfl, .inr (.inr (.inr rfl))⟩
    replace c := c.drawn hp2 ((But.same (same_upd ht)).trans b2)
    clear hv hp2 b2 hp1 b1 hpot hpot1
    have hd := c.dev
    have hq := c.par
    have hpot := c.pot
    have nT := c.nT
    have oT := c.oT
    obtain ⟨dx, hx⟩ := id hd.ob
    have g3 := dg3 hq
    have g4 := dg4 hq
    have g2 := dg2 hq
    have g5 := dg5 hq
    walk_at "rd"
    refine iteD (fun hw => ?_) (fun hw => ?_)
    · walk_at "rd"
      intro Hf hdf ouf
      replace c := c.out (T' := T' + 1) hdf ouf (by unfold rdN; split <;> (show d.n ≤ _; omega)) (by unfold rdN; split <;> (show d.outs.length ≤ _; omega))
      have hq2 := c.par
      walk_at "rd"
      intro pl2 Hg hl2 hpar2 bq
      walk_at "rd"
      exact qbl (k Hg pl2 po _ (c.parts hpar2 (fun b u n1 n2 e => bq b u n1 e) hl2 (.inl rfl))) (decide_eq_true rfl)
    walk_at "rd"
    refine iteD (fun hw => ?_) (fun hw => ?_)
    · walk_at "rd"
      intro dz Hz z0 z1 hpz bz
      replace c := c.drawn hpz bz
      have hpot2 := c.pot
      walk_at "rd"
      intro t2 ht2
      have tp2 := hpot2.ne ht2
      walk_at "rd"
      intro v2 He2 hv2 hp3 b3
      obtain ⟨w, rfl, hwd⟩ : ∃ w : Int, v2 = .int w ∧ (0 ≤ w ∧ w < 65536) := by
        simp only [List.mem_cons, List.not_mem_nil, or_false] at hv2
        have nb := hd.nb
        rcases hv2 with rfl | rfl | rfl | rfl
        · exact ⟨_, rfl, by omega⟩
        · exact ⟨_, rfl, by omega⟩
        · exact ⟨_, rfl, by omega⟩
        · exact ⟨_, rfl, by omega⟩
      replace c := c.drawn hp3 ((But.same (same_upd ht2)).trans b3)
      clear hv2 hp3 b3 hpz bz hpot2 g2 g3 g4 g5 hd hq hpot hx
      have hd := c.dev
      have hq := c.par
      obtain ⟨dx2, hx⟩ := id hd.ob
      have g2 := dg2 hq
      have P1 : Plc 961 := .inr (.inl rfl)
      have P2 : Plc 976 := .inr (.inr (.inl rfl))
      have P3 : Plc 977 := .inr (.inr (.inr rfl))
      rcases hi with rfl | rfl | rfl | rfl
      · walk_at "rd"
        intro t3 ht3
        replace c := c.same (same_upd (o := .lst [.int w]) ht3)
        have hq := c.par
        have ho3 := hq.ou
        have hl3 : (d.outs.map V.int).length + 1 ≤ sizeLine := size_le (by simp; omega)
        walk_at "rd"
        intro o3 fo3
        have c3 := c.same (same_upd (o := .lst (d.outs.map V.int ++ [.int w])) fo3)
        have dp := dput2 c3.par o3
        have po3 := c3.par.put2 (ns := d.outs ++ [w]) (o' := o3) (by rw [upd_same, List.map_append]; rfl)
        have c4 := c.parts po3 (fun b u n1 n2 e => by rw [upd_ne n1]; exact old_upd fo3 e) (.inl rfl) (.inr fo3)
        have hd4 := c4.dev
        obtain ⟨dx4, hx4⟩ := id hd4.ob
        have ol4 : d.outs.length < 100 := by omega
        walk_at "rd"
        intro Hf hdf ouf
        walk_at "rd"
        exact qbl (k Hf pl o3 { d with outs := d.outs ++ [w] } (c4.out (T' := T' + 1) hdf ouf (by show d.n ≤ _; omega) (by show (d.outs ++ [w]).length ≤ _; simp; omega))) (decide_eq_true rfl)
      · walk_at "rd"
        intro Hf hdf ouf
        walk_at "rd"
        exact qbl (k Hf pl po d (c.out (T' := T' + 1) hdf ouf (by show d.n ≤ _; omega) (by show d.outs.length ≤ _; omega))) (decide_eq_true rfl)
      · walk_at "rd"
        intro Hf hdf ouf
        walk_at "rd"
        exact qbl (k Hf pl po d (c.out (T' := T' + 1) hdf ouf (by show d.n ≤ _; omega) (by show d.outs.length ≤ _; omega))) (decide_eq_true rfl)
      · have dp := dput4 hq w
        have c4 := c.parts (hq.put34 d.n w) (fun b u n1 n2 e => by rw [upd_ne n1]; exact e) (.inl rfl) (.inl rfl)
        have hd4 := c4.dev
        obtain ⟨dx4, hx4⟩ := id hd4.ob
        walk_at "rd"
        intro Hf hdf ouf
        walk_at "rd"
        exact qbl (k Hf pl po { d with tm := w } (c4.out (T' := T' + 1) hdf ouf (by show d.n ≤ _; omega) (by show d.outs.length ≤ _; omega))) (decide_eq_true rfl)
    walk_at "rd"
    refine iteD (fun hw => ?_) (fun hw => ?_)
    · walk_at "rd"
      intro dz Hz z0 z1 hpz bz
      replace c := c.drawn hpz bz
      obtain ⟨j, rfl⟩ : ∃ j : Nat, dz = (j : Int) := ⟨dz.toNat, by omega⟩
      have hj : j < 4 := by omega
      clear g2 g3 g4 g5 hd hq hpot hx
      have hq := c.par
      have hg := hq.li
      have g5 := dg5 hq
      have hix := ix4 hj (xs := d.ln.map V.bl) (by simpa using hq.gl)
      have c4 := c.parts (hq.put5 j true) (fun b u n1 n2 e => by rw [upd_ne n2]; exact e) (.inl rfl) (.inl rfl)
      have hd4 := c4.dev
      obtain ⟨dx4, hx4⟩ := id hd4.ob
      walk_at "rd"
      intro Hf hdf ouf
      walk_at "rd"
      exact qbl (k Hf pl po { d with ln := d.ln.set j true } (c4.out (T' := T' + 1) hdf ouf (by show d.n ≤ _; omega) (by show d.outs.length ≤ _; omega))) (decide_eq_true rfl)
    walk_at "rd"
    refine iteD (fun hw => ?_) (fun hw => ?_)
    · walk_at "rd"
      intro dz Hz z0 z1 hpz bz
      replace c := c.drawn hpz bz
      have hpot2 := c.pot
      walk_at "rd"
      intro t2 ht2
      have tp2 := hpot2.ne ht2
      walk_at "rd"
      intro v2 He2 hv2 hp3 b3
      obtain ⟨m, rfl, hm⟩ : ∃ w : Int, v2 = .int w ∧ (0 ≤ w ∧ w < 65536) := by
        simp only [List.mem_cons, List.not_mem_nil, or_false] at hv2
        rcases hv2 with rfl | rfl | rfl | rfl | rfl | rfl | rfl | rfl <;> exact ⟨_, rfl, by omega⟩
      replace c := c.drawn hp3 ((But.same (same_upd ht2)).trans b3)
      clear hv2 hp3 b3 hpz bz hpot2 g2 g3 g4 g5 hd hq hpot hx
      have hq := c.par
      walk_at "rd"
      intro Hq sq
      replace c := c.same sq
      have hd := c.dev
      obtain ⟨dx2, hx⟩ := id hd.ob
      rcases due_cases d m with hn | ⟨j, hj, hb, hn⟩
      · rw [hn]
        walk_at "rd"
        · rw [hn]; rfl
        rw [hn]
        walk_at "rd"
        · rw [hn]; rfl
        rw [hn]
        have ck : Core T.C_Devices Hq p nu q x l o g pl po pg ns d d (T' + 1) := c.out hd (fun b u _ h => h) (by omega) (by omega)
        exact qbl (k Hq pl po d ck) (decide_eq_true rfl)
      · rw [hn]
        have hq := c.par
        have hg := hq.li
        have g5 := dg5 hq
        have hix := ix4 hj (xs := d.ln.map V.bl) (by simpa using hq.gl)
        have c4 := c.parts (hq.put5 j false) (fun b u n1 n2 e => by rw [upd_ne n2]; exact e) (.inl rfl) (.inl rfl)
        have hd4 := c4.dev
        obtain ⟨dx4, hx4⟩ := id hd4.ob
        walk_at "rd"
        · rw [hn]; rfl
        rw [hn]
        refine iteN (fun h => absurd rfl h) (fun _ => ?_)
        walk_at "rd"
        intro Hf hdf ouf
        walk_at "rd"
        exact qbl (k Hf pl po _ (c4.out (T' := T' + 1) hdf ouf (by show d.n ≤ _; omega) (by show d.outs.length ≤ _; omega))) (decide_eq_true rfl)
    clear hw
    have dp := dput3 hq (d.n + 1)
    have c4 := c.parts (hq.put34 (d.n + 1) d.tm) (fun b u n1 n2 e => by rw [upd_ne n1]; exact e) (.inl rfl) (.inl rfl)
    have hq4 := c4.par
    have hd4 := c4.dev
    obtain ⟨dx4, hx4⟩ := id hd4.ob
    have g3' := dg3 hq4
    have g4' := dg4 hq4
    have g5' := dg5 hq4
    have hg4 := hq4.li
    have hix := ix4 (show 0 < 4 by decide) (xs := d.ln.map V.bl) (by simpa using hq.gl)
    walk_at "rd"
    refine iteD (fun hw => ?_) (fun hw => ?_)
    · have e : d.n + 1 = d.tm := V.int.inj hw
      have c5 := c4.parts (hq4.put5 0 true) (fun b u n1 n2 e => by rw [upd_ne n2]; exact e) (.inl rfl) (.inl rfl)
      have hd5 := c5.dev
      obtain ⟨dx5, hx5⟩ := id hd5.ob
      have n9 : d.n < 999 := by omega
      walk_at "rd"
      intro Hf hdf ouf
      have ec : ctN d = { d with n := d.n + 1, ln := d.ln.set 0 true } := if_pos e
      rw [ec] at hdf
      walk_at "rd"
      exact qbl (k Hf pl po _ (c5.out (T' := T' + 1) hdf ouf (by show d.n + 1 ≤ _; omega) (by show d.outs.length ≤ _; omega))) (decide_eq_true rfl)
    · have e : ¬ d.n + 1 = d.tm := fun z => hw (congrArg V.int z)
      have n9 : d.n < 999 := by omega
      walk_at "rd"
      intro Hf hdf ouf
      have ec : ctN d = { d with n := d.n + 1 } := if_neg e
      rw [ec] at hdf
      walk_at "rd"
      exact qbl (k Hf pl po _ (c4.out (T' := T' + 1) hdf ouf (by show d.n + 1 ≤ _; omega) (by show d.outs.length ≤ _; omega))) (decide_eq_true rfl)
end
end K32

set_option Elab.async false
set_option linter.all false
set_option maxRecDepth 100000
set_option maxHeartbeats 8000000

namespace K32
open PySem PySem.Spec PyProof.Rows L2 Hx 
local macro_rules | `(tactic| walk_at "sm") => `(tactic| repeat' (first | assumption | apply Hx.Same.upd | exact L2.Same.refl _ | apply same_trans'))
local macro_rules | `(tactic| walk_at "hp") => `(tactic| repeat' (first | assumption | exact upd_same | apply old_upd | apply same_at))
local macro_rules | `(tactic| walk_at "rd") => `(tactic| repeat' (first | rfl | apply Exists.intro | apply And.intro | refine iteT ?_ | refine iteF ?_ | exact upd_same | exact SqL.of (by assumption) | exact SqL.of upd_same | exact SqT.of upd_same | exact SqT.of (by assumption) | ((with_reducible show (_ : Int) < _); omega) | ((with_reducible show (_ : Int) ≤ _); omega) | (show (_ : Prop); assumption) | exact Or.inl ⟨_, by assumption, rfl⟩ | exact Or.inl ⟨rfl, _, SqL.of (by assumption)⟩ | exact Or.inl ⟨rfl, _, SqL.of upd_same⟩ | apply old_upd | apply Hx.SqL.new | apply tyl_new | apply Pot.new | exact same_at (by assumption) (by assumption) | exact Or.inl (SqL.of (by assumption)) | exact Or.inl (by assumption) | exact Or.inl (SqL.of upd_same) | exact size_le (Nat.le_of_ble_eq_true rfl) | exact Nat.le_of_ble_eq_true rfl | exact True.intro | exact Or.inl rfl | exact Or.inr rfl | (show (_ : Prop); omega) | (show (_ : Prop); dsimp only; omega) | exact mulw64 (by omega) (by omega) | exact mulw64 (by (try dsimp only); omega) (by (try dsimp only); omega)))

section
variable {P : Program} {w : World} {K : PySem.W.Frag} {mg : Str → Option Value} {base : Heap}
theorem sqt_same {K : PySem.W.Frag} {H H' : Hp} {a : Addr} {xs : List V} (s : Same H H') (h : SqT K H a xs) : SqT K H' a xs := h.elim (fun r => r.elim (fun e => .inl (.inl (s _ _ e))) (fun ⟨o, e⟩ => .inl (.inr ⟨o, s _ _ e⟩))) .inr
mutual
theorem dp_same {K : PySem.W.Frag} {H H' : Hp} (s : Same H H') : ∀ (d : PyData) (v : V), Dp K H v d → Dp K H' v d
  | .none, _, h => by cases h; exact .non
  | .bool b, _, h => by cases h; exact .bl b
  | .int i, _, h => by cases h; exact .int i
  | .str x, _, h => by cases h; exact .str x
  | .list ds, _, h => by cases h with | lst h1 h2 => exact .lst (L2.Same.seq s h1) (dpA_same s ds _ h2)
  | .tuple ds, _, h => by cases h with | tup h1 h2 => exact .tup (sqt_same s h1) (dpA_same s ds _ h2)
  | .dict _, _, h => by cases h
theorem dpA_same {K : PySem.W.Frag} {H H' : Hp} (s : Same H H') : ∀ (ds : List PyData) (vs : List V), DpAll K H vs ds → DpAll K H' vs ds
  | [], _, h => by cases h; exact .nil
  | d :: ds, _, h => by cases h with | cons h1 h2 => exact .cons (dp_same s d _ h1) (dpA_same s ds _ h2)
end
def sp_right (K : PySem.W.Frag) : Sp := fun vs H Q _ => ∃ p : Addr, vs = [.ref p] ∧ Pot H p ∧ ∀ H', Q (.bl true) H'
theorem ok_Lright (T : Txt K mg) : FnG P w K mg base 9 T.f_Lright T.fd_Lright ["_law_pot_here"] (sp_right K) := by
  have G_Ldraw := ok_Ldraw (P := P) (w := w) (base := base) T
  have G_Devices_init := ok_Devices_init (P := P) (w := w) (base := base) T
  have G_Devices_told := ok_Devices_told (P := P) (w := w) (base := base) T
  have G_Ltold := ok_Ltold (P := P) (w := w) (base := base) T
  have G_Ldeed := ok_Ldeed (P := P) (w := w) (base := base) T
  have G_Devices_left := ok_Devices_left (P := P) (w := w) (base := base) T
  have G_Devices_steps := ok_Devices_steps (P := P) (w := w) (base := base) T
  have G_Devices_copy := ok_Devices_copy (P := P) (w := w) (base := base) T
  have G_Devices_outputs := ok_Devices_outputs (P := P) (w := w) (base := base) T
  have G_Devices_counted := ok_Devices_counted (P := P) (w := w) (base := base) T
  have G_Devices_eq := ok_Devices_eq (P := P) (w := w) (base := base) T
  refine fnG T.F_Lright sc_Lright (fun vs H Q E h => ?_) (fun cdv A outer s H vs Q E hr hg h => ?_)
  · obtain ⟨p, rfl, hp, k⟩ := h; rfl
  · obtain ⟨p, rfl, hp, k⟩ := h
    refine ⟨_, (pss_cons (ps_set (i := 1) sc_Lright.nd rfl (Or.inl rfl) (pe_lst pa_nil))
        (pss_cons (ps_forS PassesOwn.never rfl (pi_range1 rfl T.m_range (pa_cons (pe_call G_Ldraw (hr.mono (by decide)) rfl T.g_Ldraw T.F_Ldraw.kp T.b_Ldraw .nil pass0 (pa_cons (pv 0) (pa_cons pe_int pa_nil))) pa_nil)) (pg_name (i := 2) sc_Lright.nd rfl (Or.inl rfl))
          (pss_one (ps_expr (pe_bm PySem.F.plainAttrs_list PySem.F.slot_list_append PySem.F.type_list_append mt_append (pv 1) (pa_cons (pe_call G_Ldraw (hr.mono (by decide)) rfl T.g_Ldraw T.F_Ldraw.kp T.b_Ldraw .nil pass0 (pa_cons (pv 0) (pa_cons pe_int pa_nil))) pa_nil)))))
        (pss_cons (ps_par (i := 3) (j := 4) rfl sc_Lright.nd rfl rfl (by decide) rfl rfl (pa_cons (pe_make T.mk_Devices G_Devices_init (hr.mono (by decide)) rfl T.g_Devices T.b_Devices_init .nil pass0 (pa_cons (pv 1) pa_nil)) (pa_cons (pe_callB (call_reprG hg (hr.mono (by decide))) (by rfl) T.m_repr (by decide +kernel) (pa_cons (pv 1) pa_nil)) pa_nil)) (by rfl))
        (pss_cons (ps_set (i := 5) sc_Lright.nd rfl (Or.inl rfl) (pe_disp (pps_cons pe_str (pe_callTy call_list_of (by rfl) T.m_list (by decide +kernel) (pa_cons (pv 1) pa_nil)) (pps_cons pe_str (pe_lst pa_nil) (pps_cons pe_str pe_int (pps_cons pe_str pe_int (pps_cons pe_str (pe_op op_rep (pe_lst (pa_cons pe_bl pa_nil)) pe_int) pps_nil))))) (by rfl) (by rfl) (fun z => by cases z) (by decide)))
        (pss_cons (ps_forS PassesOwn.never rfl (pi_range1 rfl T.m_range (pa_cons pe_int pa_nil)) (pg_name (i := 2) sc_Lright.nd rfl (Or.inl rfl))
          (pss_cons (ps_if (PW.pt (pw_or (pt_not (pt_val (pe_call G_Ldeed (hr.mono (by decide)) rfl T.g_Ldeed T.F_Ldeed.kp T.b_Ldeed .nil pass0 (pa_cons (pv 0) (pa_cons (pv 3) (pa_cons (pv 5) pa_nil)))))) (pw_or1 (pt_cmpR (op_neS hr.units) (pe_meth0 (pv 3) T.cl_Devices T.me_Devices_told G_Devices_told (hr.mono (by decide)) T.b_Devices_told .nil pass0) (pe_call G_Ltold (hr.mono (by decide)) rfl T.g_Ltold T.F_Ltold.kp T.b_Ltold .nil pass0 (pa_cons (pv 5) pa_nil)) (nomark _)))))
            (pss_one (ps_ret pe_bl))
            pss_nil)
          (pss_one (ps_if (PW.pt (pw_or (pt_cmpR op_ne (pe_prop (pv 3) T.cl_Devices T.p_Devices_steps G_Devices_steps (hr.mono (by decide)) T.b_Devices_steps .nil pass0 rfl) (pe_dget (hu_of hr) (pv 5) pe_str (fun _ _ => rfl)) (nomark _)) (pw_or1 (pt_cmpR (op_neS hr.units) (pe_meth0 (pv 3) T.cl_Devices T.me_Devices_left G_Devices_left (hr.mono (by decide)) T.b_Devices_left .nil pass0) (pe_dget (hu_of hr) (pv 5) pe_str (fun _ _ => rfl)) (nomark _)))))
            (pss_one (ps_ret pe_bl))
            pss_nil))))
        (pss_cons (ps_set (i := 6) sc_Lright.nd rfl (Or.inl rfl) (pe_meth0 (pv 3) T.cl_Devices T.me_Devices_copy G_Devices_copy (hr.mono (by decide)) T.b_Devices_copy .nil pass0))
        (pss_cons (ps_if (PW.pt (pw_or (pt_cmpR op_ne (pe_callB call_repr_bl (by rfl) T.m_repr (by decide +kernel) (pa_cons (pe_cmpR (op_eqOwn G_Devices_eq (hr.mono (by decide)) T.me_Devices_eq.at_ T.me_Devices_eq.fn T.b_Devices_eq) (pv 6) (pv 3) (nomark _)) pa_nil)) pe_str (nomark _)) (pw_or1 (pt_cmpR (op_neS hr.units) (pe_meth0 (pv 3) T.cl_Devices T.me_Devices_outputs G_Devices_outputs (hr.mono (by decide)) T.b_Devices_outputs .nil pass0) (pe_dget (hu_of hr) (pv 5) pe_str (fun _ _ => rfl)) (nomark _)))))
          (pss_one (ps_ret pe_bl))
          pss_nil)
        (pss_cons (ps_expr (pe_meth0 (pv 6) T.cl_Devices T.me_Devices_counted G_Devices_counted (hr.mono (by decide)) T.b_Devices_counted .nil pass0))
        (pss_cons (ps_if (PW.pt (pw_or (pt_cmpR op_ne (pe_callB call_repr_bl (by rfl) T.m_repr (by decide +kernel) (pa_cons (pe_cmpR (op_eqOwn G_Devices_eq (hr.mono (by decide)) T.me_Devices_eq.at_ T.me_Devices_eq.fn T.b_Devices_eq) (pv 6) (pv 3) (nomark _)) pa_nil)) pe_str (nomark _)) (pw_or1 (pt_cmpR (op_neS hr.units) (pe_meth0 (pv 3) T.cl_Devices T.me_Devices_told G_Devices_told (hr.mono (by decide)) T.b_Devices_told .nil pass0) (pe_call G_Ltold (hr.mono (by decide)) rfl T.g_Ltold T.F_Ltold.kp T.b_Ltold .nil pass0 (pa_cons (pv 5) pa_nil)) (nomark _)))))
          (pss_one (ps_ret pe_bl))
          pss_nil)
        (pss_cons (ps_expr (pe_bm PySem.F.plainAttrs_list PySem.F.slot_list_append PySem.F.type_list_append mt_append (pe_meth0 (pv 3) T.cl_Devices T.me_Devices_outputs G_Devices_outputs (hr.mono (by decide)) T.b_Devices_outputs .nil pass0) (pa_cons pe_non pa_nil)))
        (pss_one (ps_ret (pe_and (pe_cmpR (op_eqS hr.units) (pe_meth0 (pv 3) T.cl_Devices T.me_Devices_told G_Devices_told (hr.mono (by decide)) T.b_Devices_told .nil pass0) (pe_call G_Ltold (hr.mono (by decide)) rfl T.g_Ltold T.F_Ltold.kp T.b_Ltold .nil pass0 (pa_cons (pv 5) pa_nil)) (nomark _)) (pe_one (pe_cmpR op_eq (pe_callB (call_reprG hg (hr.mono (by decide))) (by rfl) T.m_repr (by decide +kernel) (pa_cons (pv 1) pa_nil)) (pv 4) (nomark _)))))))))))))))), ?_⟩
    clear G_Ldraw G_Devices_init G_Devices_told G_Ltold G_Ldeed G_Devices_left G_Devices_steps G_Devices_copy G_Devices_outputs G_Devices_counted G_Devices_eq
    clear hr hg
    walk_at "rd"
    intro nu fnu
    have pn : nu ≠ p := hp.ne fnu
    walk_at "rd"
    intro dm H1 m0 m1 hp1 b1
    have hnu1 : H1 nu = some (.lst (([] : List Int).map V.int)) := b1 _ _ pn upd_same
    walk_at "rd"
    have em : (dm.toNat : Int) = dm := by omega
    refine ⟨for_range (n := dm.toNat) (fun i σ H' => Stop (∃ (t2 : Option V) (ns : List Int), σ = [some (.ref p), some (.ref nu), t2, none, none, none, none] ∧ Pot H' p ∧ H' nu = some (.lst (ns.map V.int)) ∧ ns.length = i ∧ ∀ z ∈ ns, 0 ≤ z ∧ z < 65536)) ⟨⟨none, [], rfl, hp1, hnu1, rfl, fun z h => nomatch h⟩⟩ (fun i σ H' hi h => ?_) (fun σ H' h => ?_)⟩
    · obtain ⟨t2, ns, rfl, hpp, hnn, hln, hw⟩ := h.h
      walk_at "rd"
      intro z Hz z0 z1 hpz bz
      have hnz := bz _ _ pn hnn
      have hlz : (ns.map V.int).length < sizeLine := size_lt (by simp; omega)
      walk_at "rd"
      exact ⟨⟨_, ns ++ [z], rfl, ⟨by obtain ⟨y, y', e, r⟩ := hpz.ex; exact ⟨y, y', by rw [upd_ne (Ne.symm pn)]; exact e, r⟩⟩, by rw [upd_same, List.map_append]; rfl, by simp [hln], fun y hy => by
        rcases List.mem_append.mp hy with h | h
        · exact hw y h
        · simp at h; omega⟩⟩
    obtain ⟨t2, ns, rfl, hpp, hnn, hln, hw⟩ := h.h
    have hl7 : ns.length ≤ 7 := by omega
    have hl40 : ns.length ≤ 40 := by omega
    walk_at "rd"
    intro x dx nx ndx nex
    have nx' : upd H' dx (.own x) x = none := by rw [upd_ne (Ne.symm nex)]; exact nx
    have sm : Same H' (upd (upd H' dx (.own x)) x (.ins T.C_Devices dx [])) := Hx.Same.upd (same_upd ndx) nx'
    have hnn1 := sm _ _ hnn
    walk_at "rd"
    intro l o g H2 fl fo fg hdv bt
    have s2 : Same H' H2 := fun b u e => bt b u (ne_of_none e nx) (sm _ _ e)
    have hnn2 := s2 _ _ hnn
    have dN : Dp K H2 (.ref nu) (.list (ns.map PyData.int)) := .lst (SqL.of hnn2) (dp_ints ns)
    obtain ⟨r1, r2, r3, r4⟩ := shown_words (ns := ns) (fun z hz => by have := hw z hz; omega) (by omega)
    walk_at "rd"
    intro q fq
    have hnn3 : (upd H2 q (.dK [])) nu = some (.lst (ns.map V.int)) := old_upd fq hnn2
    walk_at "rd"
    intro pl fpl
    walk_at "rd"
    intro po fpo
    walk_at "rd"
    intro tb ftb
    walk_at "rd"
    intro pg fpg
    have hq0 : (upd (upd (upd (upd H2 q (.dK [])) pl (.lst (ns.map V.int))) po (.lst [])) tb (.lst [.bl false])) q = some (.dK []) := old_upd ftb (old_upd fpo (old_upd fpl upd_same))
    refine And.intro (old_upd fpg hq0) (Exists.intro (P5 pl po 0 0 pg) (And.intro rfl (And.intro (show 5 ≤ 15 by decide) ?_)))
    rw [show mergeK [] (P5 pl po 0 0 pg) = P5 pl po 0 0 pg from rfl]
    have S5 : Same H2 (upd (upd (upd (upd (upd H2 q (.dK [])) pl (.lst (ns.map V.int))) po (.lst [])) tb (.lst [.bl false])) pg (.lst (List.replicate (4 : Int).toNat [V.bl false]).flatten)) := Hx.Same.upd (Hx.Same.upd (Hx.Same.upd (Hx.Same.upd (same_upd fq) fpl) fpo) ftb) fpg
    have S6 : Same H2 (upd (upd (upd (upd (upd (upd H2 q (.dK [])) pl (.lst (ns.map V.int))) po (.lst [])) tb (.lst [.bl false])) pg (.lst (List.replicate (4 : Int).toNat [V.bl false]).flatten)) q (.dK (P5 pl po 0 0 pg))) := same_set S5 fq
    have npl : pl ≠ q := fun z => by rw [z, upd_same] at fpl; cases fpl
    have npo : po ≠ q := fun z => by rw [z, upd_ne (Ne.symm npl), upd_same] at fpo; cases fpo
    have npg : pg ≠ q := fun z => by rw [z, hq0] at fpg; cases fpg
    have f2l : H2 pl = none := (same_upd (o := .dK []) fq).free fpl
    have f2o : H2 po = none := (Hx.Same.upd (o := .lst (ns.map V.int)) (same_upd (o := .dK []) fq) fpl).free fpo
    have f2g : H2 pg = none := (Hx.Same.upd (o := .lst [.bl false]) (Hx.Same.upd (o := .lst []) (Hx.Same.upd (o := .lst (ns.map V.int)) (same_upd (o := .dK []) fq) fpl) fpo) ftb).free fpg
    obtain ⟨dx1, hx1⟩ := id hdv.ob
    have D : ∀ {b : Addr} {u : HO}, H' b = some u → b ∉ [x, l, o, g] := fun {b u} e => by
      simp only [List.mem_cons, List.not_mem_nil, or_false, not_or]
      exact ⟨ne_of_none e nx, ne_of_none e (sm.free fl), ne_of_none e (sm.free fo), ne_of_none e (sm.free fg)⟩
    have D2 : ∀ {b : Addr}, H2 b = none → b ∉ [x, l, o, g] := fun {b} e => by
      simp only [List.mem_cons, List.not_mem_nil, or_false, not_or]
      exact ⟨Ne.symm (ne_of_none hx1 e), Ne.symm (ne_of_none hdv.lf e), Ne.symm (ne_of_none hdv.ou e), Ne.symm (ne_of_none hdv.li e)⟩
    obtain ⟨py, pz, ep, er⟩ := hpp.ex
    have c0 : Core T.C_Devices (upd (upd (upd (upd (upd (upd H2 q (.dK [])) pl (.lst (ns.map V.int))) po (.lst [])) tb (.lst [.bl false])) pg (.lst (List.replicate (4 : Int).toNat [V.bl false]).flatten)) q (.dK (P5 pl po 0 0 pg))) p nu q x l o g pl po pg ns (d0 ns) (d0 ns) 0 := by
      refine ⟨⟨py, pz, S6 _ _ (s2 _ _ ep), er⟩, S6 _ _ hnn2, hdv.same S6, ⟨upd_same, ?_, ?_, ?_, rfl⟩, fun a h => ?_, ?_, Int.le_refl _, Nat.le_refl _⟩
      · rw [upd_ne npl]; exact old_upd fpg (old_upd ftb (old_upd fpo upd_same))
      · rw [upd_ne npo]; exact old_upd fpg (old_upd ftb upd_same)
      · rw [upd_ne npg]; exact upd_same
      · simp only [List.mem_cons, List.not_mem_nil, or_false] at h
        rcases h with rfl | rfl | rfl | rfl | rfl | rfl
        · exact D ep
        · exact D hnn
        · exact D2 fq
        · exact D2 f2l
        · exact D2 f2o
        · exact D2 f2g
      · simp only [List.mem_cons, List.not_mem_nil, or_false, not_or]
        exact ⟨Ne.symm pn, ne_of_none (s2 _ _ ep) fq, ne_of_none (s2 _ _ ep) f2l, ne_of_none (s2 _ _ ep) f2o, ne_of_none (s2 _ _ ep) f2g⟩
    generalize (upd (upd (upd (upd (upd (upd H2 q (.dK [])) pl (.lst (ns.map V.int))) po (.lst [])) tb (.lst [.bl false])) pg (.lst (List.replicate (4 : Int).toNat [V.bl false]).flatten)) q (.dK (P5 pl po 0 0 pg))) = H7 at c0 ⊢
    clear S5 S6 hq0 hnn3 dN D D2 hx1 hdv bt s2 hnn1 hnn2 sm nx' fpg ftb fpo fpl
    walk_at "rd"
    refine ⟨for_range (n := 20) (fun i σ H' => Stop (∃ (t2' : Option V) (pl po : Addr) (d : Dev), σ = [some (.ref p), some (.ref nu), t2', some (.ref x), some (.str (PyData.list (ns.map PyData.int)).shown), some (.ref q), none] ∧ Core T.C_Devices H' p nu q x l o g pl po pg ns d d i)) ⟨⟨_, pl, po, _, rfl, c0⟩⟩ (fun i σ Hi hi h => ?_) (fun σ Hi h => ?_)⟩
    · obtain ⟨t2', pl, po, d, rfl, c⟩ := h.h
      obtain ⟨dxi, hxi⟩ := id c.dev.ob
      walk_at "rd"
      intro Hd pl2 po2 d2 c2
      obtain ⟨dxi2, hxi2⟩ := id c2.dev.ob
      have hd2 := c2.dev
      walk_at "rd"
      intro pt Ht dpt st
      have c3 := c2.same st
      have hq3 := c3.par
      walk_at "rd"
      intro pt2 Ht2 dpt2 st2
      have dpt' := dp_same st2 _ _ dpt
      have tsh := told_sh d2
      have c4 := c3.same st2
      have hd4 := c4.dev
      obtain ⟨dxi4, hxi4⟩ := id hd4.ob
      have g3 := dg3 c4.par
      walk_at "rd"
      refine iteN (fun h => absurd rfl h) (fun _ => ?_)
      walk_at "rd"
      intro pL HL fL eL sL
      have c5 := c4.same sL
      have g1 := dg1 c5.par
      have L1 : Dp K HL (.ref pL) (.list (d2.left.map PyData.int)) := .lst (SqL.of eL) (dp_ints _)
      have L2' : Dp K HL (.ref pl2) (.list (d2.left.map PyData.int)) := .lst (SqL.of c5.par.lf) (dp_ints _)
      have shl := sh_ints d2.left
      walk_at "rd"
      exact ⟨⟨_, pl2, po2, d2, rfl, c5⟩⟩
    · obtain ⟨t2', pl, po, d, rfl, c⟩ := h.h
      obtain ⟨dxi, hxi⟩ := id c.dev.ob
      have hdI := c.dev
      walk_at "rd"
      intro x' l' o' g' Hc nx1 nl1 no1 ng1 hdc sc
      have c2 := c.same sc
      have hd2 := c2.dev
      obtain ⟨dxo, hxo⟩ := id hdc.ob
      obtain ⟨dxi2, hxi2⟩ := id hd2.ob
      have hen : d.n = d.n → d = d := fun _ => rfl
      walk_at "rd"
      refine iteN (fun h => absurd (congrArg V.str (by rw [decide_eq_true rfl]; rfl)) h) (fun _ => ?_)
      walk_at "rd"
      intro pO HO fO eO sO
      have c3 := c2.same sO
      have g2 := dg2 c3.par
      have O1 : Dp K HO (.ref pO) (.list (d.outs.map PyData.int)) := .lst (SqL.of eO) (dp_ints _)
      have O2 : Dp K HO (.ref po) (.list (d.outs.map PyData.int)) := .lst (SqL.of c3.par.ou) (dp_ints _)
      have sho := sh_ints d.outs
      have hdo := hdc.same sO
      obtain ⟨dxo3, hxo3⟩ := id hdo.ob
      have nT := c.nT
      have n9 : d.n < 999 := by omega
      walk_at "rd"
      intro Hf hdf ouf
      have sF : Same Hi Hf := fun b u e => ouf b u (by
        simp only [List.mem_cons, List.not_mem_nil, or_false, not_or]
        exact ⟨ne_of_none e nx1, ne_of_none e nl1, ne_of_none e no1, ne_of_none e ng1⟩) (sO _ _ (sc _ _ e))
      have cF := c.same sF
      clear c2 c3 hd2 hxo hxi2 hen g2 O1 O2 sho hdo hxo3 hdc sc sO eO fO hdI hxi ouf
      have hdD := cF.dev
      obtain ⟨dxa, hxa⟩ := id hdf.ob
      obtain ⟨dxb, hxb⟩ := id hdD.ob
      have el : d.left = (ctN d).left := by unfold ctN; split <;> rfl
      have eo : d.outs = (ctN d).outs := by unfold ctN; split <;> rfl
      have en1 : (ctN d).n = d.n + 1 := by unfold ctN; split <;> rfl
      have en : d.n = (ctN d).n → d = ctN d := fun z => by omega
      have nn : ¬ (ctN d).n = d.n := by omega
      walk_at "rd"
      refine iteN (fun h => absurd (congrArg V.str (by rw [decide_eq_false nn]; rfl)) h) (fun _ => ?_)
      walk_at "rd"
      intro pt Ht dpt st
      have c4 := cF.same st
      have hq4 := c4.par
      walk_at "rd"
      intro pt2 Ht2 dpt2 st2
      have dpt' := dp_same st2 _ _ dpt
      have tsh := told_sh d
      have c5 := c4.same st2
      have hd5 := c5.dev
      obtain ⟨dx5, hx5⟩ := id hd5.ob
      walk_at "rd"
      intro pA HA fA eA sA
      have ll : (d.outs.map V.int).length < sizeLine := size_lt (by have := hd5.ol; simp; omega)
      have c6 := c5.same (same_set (o := .lst (d.outs.map V.int ++ [.non])) sA fA)
      have hd6 := c6.dev
      obtain ⟨dx6, hx6⟩ := id hd6.ob
      walk_at "rd"
      intro qt Hu dqt su
      have c7 := c6.same su
      have hq7 := c7.par
      walk_at "rd"
      intro qt2 Hu2 dqt2 su2
      have dqt' := dp_same su2 _ _ dqt
      have c8 := c7.same su2
      have dN : Dp K Hu2 (.ref nu) (.list (ns.map PyData.int)) := .lst (SqL.of c8.num) (dp_ints ns)
      walk_at "rd"
      exact qbl (k Hu2) (decide_eq_true rfl)
end
end K32

set_option Elab.async false
set_option linter.all false
set_option maxRecDepth 100000
set_option maxHeartbeats 8000000

namespace K32
open PySem PySem.Spec PyProof.Rows L2 Hx 
local macro_rules | `(tactic| walk_at "sm") => `(tactic| repeat' (first | assumption | apply Hx.Same.upd | exact L2.Same.refl _ | apply same_trans'))
local macro_rules | `(tactic| walk_at "hp") => `(tactic| repeat' (first | assumption | exact upd_same | apply old_upd | apply same_at))
local macro_rules | `(tactic| walk_at "rd") => `(tactic| repeat' (first | rfl | apply Exists.intro | apply And.intro | refine iteT ?_ | refine iteF ?_ | exact upd_same | exact SqL.of (by assumption) | exact SqL.of upd_same | exact SqT.of upd_same | exact SqT.of (by assumption) | ((with_reducible show (_ : Int) < _); omega) | ((with_reducible show (_ : Int) ≤ _); omega) | (show (_ : Prop); assumption) | exact Or.inl ⟨_, by assumption, rfl⟩ | exact Or.inl ⟨rfl, _, SqL.of (by assumption)⟩ | exact Or.inl ⟨rfl, _, SqL.of upd_same⟩ | apply old_upd | apply Hx.SqL.new | apply tyl_new | apply Pot.new | exact same_at (by assumption) (by assumption) | exact Or.inl (SqL.of (by assumption)) | exact Or.inl (by assumption) | exact Or.inl (SqL.of upd_same) | exact size_le (Nat.le_of_ble_eq_true rfl) | exact Nat.le_of_ble_eq_true rfl | exact True.intro | exact Or.inl rfl | exact Or.inr rfl | (show (_ : Prop); omega) | (show (_ : Prop); dsimp only; omega) | exact mulw64 (by omega) (by omega) | exact mulw64 (by (try dsimp only); omega) (by (try dsimp only); omega)))

section
variable {P : Program} {w : World} {K : PySem.W.Frag} {mg : Str → Option Value} {base : Heap}
def sp_law (K : PySem.W.Frag) : Sp := fun vs H Q _ => ∃ (a : Addr) (ns : List Int), vs = [.ref a] ∧ SqL K H a (ns.map V.int) ∧ ns.length ≤ 63 ∧ ∀ H', Q (.bl true) H'
theorem ok_law (T : Txt K mg) : FnG P w K mg base 10 T.f_law T.fd_law ["_law_script"] (sp_law K) := by
  have G_Lright := ok_Lright (P := P) (w := w) (base := base) T
  have G_Lpot := ok_Lpot (P := P) (w := w) (base := base) T
  refine fnG T.F_law sc_law (fun vs H Q E h => ?_) (fun cdv A outer s H vs Q E hr hg h => ?_)
  · obtain ⟨a, ns, rfl, hS, hl, k⟩ := h; rfl
  · obtain ⟨a, ns, rfl, hS, hl, k⟩ := h
    refine ⟨_, (pss_one (ps_ret (pe_callG (E := E0) hg G_Lright (hr.mono (by decide)) rfl T.g_Lright T.F_Lright.kp T.b_Lright (pa_cons (pe_call G_Lpot (hr.mono (by decide)) rfl T.g_Lpot T.F_Lpot.kp T.b_Lpot .nil pass0 (pa_cons (pv 0) (pa_cons pe_int pa_nil))) pa_nil)))), ?_⟩
    clear G_Lright G_Lpot
    clear hr hg
    walk_at "rd"
    intro p H1 hp s1 hpot
    walk_at "rd"
end
end K32

set_option Elab.async false
set_option linter.all false
set_option maxRecDepth 100000
set_option maxHeartbeats 8000000

namespace K32
open PySem PySem.Spec PyProof.Rows L2 Hx
theorem all_mk {l : PySem.W.OpenLaw} {w : World} {K : PySem.W.Frag} {h : Heap} {mg : Str → Option Value} {fa : Addr} (X : K.In h) (G : h.Ns mainGlobals mg) (hfa : mg "law" = some (.ref fa))
    {C_Devices : Addr}
    {f_is_integer : Addr} {od_is_integer an_is_integer : Option Addr} {sl_is_integer : Array (Option Value)} {oc_is_integer kV_is_integer dc_is_integer pm_is_integer cd_is_integer ct_is_integer : Value}
    {f_is_between : Addr} {od_is_between an_is_between : Option Addr} {sl_is_between : Array (Option Value)} {oc_is_between kV_is_between dc_is_between pm_is_between cd_is_between ct_is_between : Value}
    {f_is_list : Addr} {od_is_list an_is_list : Option Addr} {sl_is_list : Array (Option Value)} {oc_is_list kV_is_list dc_is_list pm_is_list cd_is_list ct_is_list : Value}
    {f_is_word : Addr} {od_is_word an_is_word : Option Addr} {sl_is_word : Array (Option Value)} {oc_is_word kV_is_word dc_is_word pm_is_word cd_is_word ct_is_word : Value}
    {f_is_word_list : Addr} {od_is_word_list an_is_word_list : Option Addr} {sl_is_word_list : Array (Option Value)} {oc_is_word_list kV_is_word_list dc_is_word_list pm_is_word_list cd_is_word_list ct_is_word_list : Value}
    {f_need_word : Addr} {od_need_word an_need_word : Option Addr} {sl_need_word : Array (Option Value)} {oc_need_word kV_need_word dc_need_word pm_need_word cd_need_word ct_need_word : Value}
    {f_Devices_init : Addr} {od_Devices_init an_Devices_init : Option Addr} {sl_Devices_init : Array (Option Value)} {oc_Devices_init kV_Devices_init dc_Devices_init pm_Devices_init cd_Devices_init ct_Devices_init : Value}
    {f_Devices_can : Addr} {od_Devices_can an_Devices_can : Option Addr} {sl_Devices_can : Array (Option Value)} {oc_Devices_can kV_Devices_can dc_Devices_can pm_Devices_can cd_Devices_can ct_Devices_can : Value}
    {f_Devices_read : Addr} {od_Devices_read an_Devices_read : Option Addr} {sl_Devices_read : Array (Option Value)} {oc_Devices_read kV_Devices_read dc_Devices_read pm_Devices_read cd_Devices_read ct_Devices_read : Value}
    {f_Devices_write : Addr} {od_Devices_write an_Devices_write : Option Addr} {sl_Devices_write : Array (Option Value)} {oc_Devices_write kV_Devices_write dc_Devices_write pm_Devices_write cd_Devices_write ct_Devices_write : Value}
    {f_Devices_raised : Addr} {od_Devices_raised an_Devices_raised : Option Addr} {sl_Devices_raised : Array (Option Value)} {oc_Devices_raised kV_Devices_raised dc_Devices_raised pm_Devices_raised cd_Devices_raised ct_Devices_raised : Value}
    {f_Devices_counted : Addr} {od_Devices_counted an_Devices_counted : Option Addr} {sl_Devices_counted : Array (Option Value)} {oc_Devices_counted kV_Devices_counted dc_Devices_counted pm_Devices_counted cd_Devices_counted ct_Devices_counted : Value}
    {f_Devices_due : Addr} {od_Devices_due an_Devices_due : Option Addr} {sl_Devices_due : Array (Option Value)} {oc_Devices_due kV_Devices_due dc_Devices_due pm_Devices_due cd_Devices_due ct_Devices_due : Value}
    {f_Devices_lowered : Addr} {od_Devices_lowered an_Devices_lowered : Option Addr} {sl_Devices_lowered : Array (Option Value)} {oc_Devices_lowered kV_Devices_lowered dc_Devices_lowered pm_Devices_lowered cd_Devices_lowered ct_Devices_lowered : Value}
    {f_Devices_outputs : Addr} {od_Devices_outputs an_Devices_outputs : Option Addr} {sl_Devices_outputs : Array (Option Value)} {oc_Devices_outputs kV_Devices_outputs dc_Devices_outputs pm_Devices_outputs cd_Devices_outputs ct_Devices_outputs : Value}
    {f_Devices_left : Addr} {od_Devices_left an_Devices_left : Option Addr} {sl_Devices_left : Array (Option Value)} {oc_Devices_left kV_Devices_left dc_Devices_left pm_Devices_left cd_Devices_left ct_Devices_left : Value}
    {f_Devices_steps : Addr} {od_Devices_steps an_Devices_steps : Option Addr} {sl_Devices_steps : Array (Option Value)} {oc_Devices_steps kV_Devices_steps dc_Devices_steps pm_Devices_steps cd_Devices_steps ct_Devices_steps : Value}
    {pa_Devices_steps : Addr} {pr_Devices_steps : List Value}
    {f_Devices_told : Addr} {od_Devices_told an_Devices_told : Option Addr} {sl_Devices_told : Array (Option Value)} {oc_Devices_told kV_Devices_told dc_Devices_told pm_Devices_told cd_Devices_told ct_Devices_told : Value}
    {f_Devices_copy : Addr} {od_Devices_copy an_Devices_copy : Option Addr} {sl_Devices_copy : Array (Option Value)} {oc_Devices_copy kV_Devices_copy dc_Devices_copy pm_Devices_copy cd_Devices_copy ct_Devices_copy : Value}
    {f_Devices_eq : Addr} {od_Devices_eq an_Devices_eq : Option Addr} {sl_Devices_eq : Array (Option Value)} {oc_Devices_eq kV_Devices_eq dc_Devices_eq pm_Devices_eq cd_Devices_eq ct_Devices_eq : Value}
    {f_Devicesneed_there : Addr} {od_Devicesneed_there an_Devicesneed_there : Option Addr} {sl_Devicesneed_there : Array (Option Value)} {oc_Devicesneed_there kV_Devicesneed_there dc_Devicesneed_there pm_Devicesneed_there cd_Devicesneed_there ct_Devicesneed_there : Value}
    {f_are_inputs : Addr} {od_are_inputs an_are_inputs : Option Addr} {sl_are_inputs : Array (Option Value)} {oc_are_inputs kV_are_inputs dc_are_inputs pm_are_inputs cd_are_inputs ct_are_inputs : Value}
    {f_is_line : Addr} {od_is_line an_is_line : Option Addr} {sl_is_line : Array (Option Value)} {oc_is_line kV_is_line dc_is_line pm_is_line cd_is_line ct_is_line : Value}
    {f_need_line : Addr} {od_need_line an_need_line : Option Addr} {sl_need_line : Array (Option Value)} {oc_need_line kV_need_line dc_need_line pm_need_line cd_need_line ct_need_line : Value}
    {f_Lpot : Addr} {od_Lpot an_Lpot : Option Addr} {sl_Lpot : Array (Option Value)} {oc_Lpot kV_Lpot dc_Lpot pm_Lpot cd_Lpot ct_Lpot : Value}
    {f_Ldraw : Addr} {od_Ldraw an_Ldraw : Option Addr} {sl_Ldraw : Array (Option Value)} {oc_Ldraw kV_Ldraw dc_Ldraw pm_Ldraw cd_Ldraw ct_Ldraw : Value}
    {f_Lpick : Addr} {od_Lpick an_Lpick : Option Addr} {sl_Lpick : Array (Option Value)} {oc_Lpick kV_Lpick dc_Lpick pm_Lpick cd_Lpick ct_Lpick : Value}
    {f_Ltold : Addr} {od_Ltold an_Ltold : Option Addr} {sl_Ltold : Array (Option Value)} {oc_Ltold kV_Ltold dc_Ltold pm_Ltold cd_Ltold ct_Ltold : Value}
    {f_Lread : Addr} {od_Lread an_Lread : Option Addr} {sl_Lread : Array (Option Value)} {oc_Lread kV_Lread dc_Lread pm_Lread cd_Lread ct_Lread : Value}
    {f_Ldue : Addr} {od_Ldue an_Ldue : Option Addr} {sl_Ldue : Array (Option Value)} {oc_Ldue kV_Ldue dc_Ldue pm_Ldue cd_Ldue ct_Ldue : Value}
    {f_Ldeed : Addr} {od_Ldeed an_Ldeed : Option Addr} {sl_Ldeed : Array (Option Value)} {oc_Ldeed kV_Ldeed dc_Ldeed pm_Ldeed cd_Ldeed ct_Ldeed : Value}
    {f_Lright : Addr} {od_Lright an_Lright : Option Addr} {sl_Lright : Array (Option Value)} {oc_Lright kV_Lright dc_Lright pm_Lright cd_Lright ct_Lright : Value}
    {f_law : Addr} {od_law an_law : Option Addr} {sl_law : Array (Option Value)} {oc_law kV_law dc_law pm_law cd_law ct_law : Value}
    {t_WORDS : Tok}
    {t__INPUT_OUTPUT : Tok}
    {t__LEFT : Tok}
    {t__STEPS : Tok}
    {t__TIMER : Tok}
    {t__LINES : Tok}
    {t__TIMER_LINE : Tok}
    {t__MOST_INPUTS : Tok}
    
    (aC_Devices : PySem.W.nsIn K mainGlobals "Devices" = some (some (.ref C_Devices))) (pg_Devices : PySem.W.plainGet K C_Devices Str.empty = true) (hd_Devices : PySem.W.hasDictIn K C_Devices = true) (po_Devices : PySem.W.plainOver K C_Devices = true) (sa_Devices : PySem.W.findIn K (.ref C_Devices) "__setattr__" = some (some (.builtin "object.__setattr__"))) (mk_Devices : PySem.W.makesIn K C_Devices = true) (kc_Devices : PySem.W.keepIn K (.ref C_Devices) = true)
    (n_Devices_left : PySem.W.findIn K (.ref C_Devices) "_left" = some none)
    (n_Devices_outputs : PySem.W.findIn K (.ref C_Devices) "_outputs" = some none)
    (n_Devices_counted : PySem.W.findIn K (.ref C_Devices) "_counted" = some none)
    (n_Devices_timer : PySem.W.findIn K (.ref C_Devices) "_timer" = some none)
    (n_Devices_lines : PySem.W.findIn K (.ref C_Devices) "_lines" = some none)
    (a_is_integer : PySem.W.nsIn K mainGlobals "is_integer" = some (some (.ref f_is_integer)))
    (l_is_integer : K.lookup f_is_integer = some ⟨oc_is_integer, od_is_integer, .func (PySem.W.fnOf "is_integer" "is_integer" (defArgs s_is_integer) (defBody s_is_integer) (defScope s_is_integer) .none kV_is_integer dc_is_integer pm_is_integer an_is_integer cd_is_integer ct_is_integer), sl_is_integer⟩)
    (c_is_integer : PySem.W.codeIn K cd_is_integer "is_integer" = true) (k_is_integer : PySem.W.keepIn K (.ref f_is_integer) = true)
    (a_is_between : PySem.W.nsIn K mainGlobals "is_between" = some (some (.ref f_is_between)))
    (l_is_between : K.lookup f_is_between = some ⟨oc_is_between, od_is_between, .func (PySem.W.fnOf "is_between" "is_between" (defArgs s_is_between) (defBody s_is_between) (defScope s_is_between) .none kV_is_between dc_is_between pm_is_between an_is_between cd_is_between ct_is_between), sl_is_between⟩)
    (c_is_between : PySem.W.codeIn K cd_is_between "is_between" = true) (k_is_between : PySem.W.keepIn K (.ref f_is_between) = true)
    (a_is_list : PySem.W.nsIn K mainGlobals "is_list" = some (some (.ref f_is_list)))
    (l_is_list : K.lookup f_is_list = some ⟨oc_is_list, od_is_list, .func (PySem.W.fnOf "is_list" "is_list" (defArgs s_is_list) (defBody s_is_list) (defScope s_is_list) .none kV_is_list dc_is_list pm_is_list an_is_list cd_is_list ct_is_list), sl_is_list⟩)
    (c_is_list : PySem.W.codeIn K cd_is_list "is_list" = true) (k_is_list : PySem.W.keepIn K (.ref f_is_list) = true)
    (a_is_word : PySem.W.nsIn K mainGlobals "is_word" = some (some (.ref f_is_word)))
    (l_is_word : K.lookup f_is_word = some ⟨oc_is_word, od_is_word, .func (PySem.W.fnOf "is_word" "is_word" (defArgs s_is_word) (defBody s_is_word) (defScope s_is_word) .none kV_is_word dc_is_word pm_is_word an_is_word cd_is_word ct_is_word), sl_is_word⟩)
    (c_is_word : PySem.W.codeIn K cd_is_word "is_word" = true) (k_is_word : PySem.W.keepIn K (.ref f_is_word) = true)
    (a_is_word_list : PySem.W.nsIn K mainGlobals "is_word_list" = some (some (.ref f_is_word_list)))
    (l_is_word_list : K.lookup f_is_word_list = some ⟨oc_is_word_list, od_is_word_list, .func (PySem.W.fnOf "is_word_list" "is_word_list" (defArgs s_is_word_list) (defBody s_is_word_list) (defScope s_is_word_list) .none kV_is_word_list dc_is_word_list pm_is_word_list an_is_word_list cd_is_word_list ct_is_word_list), sl_is_word_list⟩)
    (c_is_word_list : PySem.W.codeIn K cd_is_word_list "is_word_list" = true) (k_is_word_list : PySem.W.keepIn K (.ref f_is_word_list) = true)
    (a_need_word : PySem.W.nsIn K mainGlobals "need_word" = some (some (.ref f_need_word)))
    (l_need_word : K.lookup f_need_word = some ⟨oc_need_word, od_need_word, .func (PySem.W.fnOf "need_word" "need_word" (defArgs s_need_word) (defBody s_need_word) (defScope s_need_word) .none kV_need_word dc_need_word pm_need_word an_need_word cd_need_word ct_need_word), sl_need_word⟩)
    (c_need_word : PySem.W.codeIn K cd_need_word "need_word" = true) (k_need_word : PySem.W.keepIn K (.ref f_need_word) = true)
    (a_Devices_init : PySem.W.findIn K (.ref C_Devices) "__init__" = some (some (.ref f_Devices_init)))
    (i_Devices_init : PySem.W.isFn K (.ref f_Devices_init) = true)
    (l_Devices_init : K.lookup f_Devices_init = some ⟨oc_Devices_init, od_Devices_init, .func (PySem.W.fnOf "__init__" "Devices.__init__" (defArgs s_Devices_init) (defBody s_Devices_init) (defScope s_Devices_init) .none kV_Devices_init dc_Devices_init pm_Devices_init an_Devices_init cd_Devices_init ct_Devices_init), sl_Devices_init⟩)
    (c_Devices_init : PySem.W.codeIn K cd_Devices_init "Devices.__init__" = true) (k_Devices_init : PySem.W.keepIn K (.ref f_Devices_init) = true)
    (a_Devices_can : PySem.W.findIn K (.ref C_Devices) "can" = some (some (.ref f_Devices_can)))
    (i_Devices_can : PySem.W.isFn K (.ref f_Devices_can) = true)
    (l_Devices_can : K.lookup f_Devices_can = some ⟨oc_Devices_can, od_Devices_can, .func (PySem.W.fnOf "can" "Devices.can" (defArgs s_Devices_can) (defBody s_Devices_can) (defScope s_Devices_can) .none kV_Devices_can dc_Devices_can pm_Devices_can an_Devices_can cd_Devices_can ct_Devices_can), sl_Devices_can⟩)
    (c_Devices_can : PySem.W.codeIn K cd_Devices_can "Devices.can" = true) (k_Devices_can : PySem.W.keepIn K (.ref f_Devices_can) = true)
    (a_Devices_read : PySem.W.findIn K (.ref C_Devices) "read" = some (some (.ref f_Devices_read)))
    (i_Devices_read : PySem.W.isFn K (.ref f_Devices_read) = true)
    (l_Devices_read : K.lookup f_Devices_read = some ⟨oc_Devices_read, od_Devices_read, .func (PySem.W.fnOf "read" "Devices.read" (defArgs s_Devices_read) (defBody s_Devices_read) (defScope s_Devices_read) .none kV_Devices_read dc_Devices_read pm_Devices_read an_Devices_read cd_Devices_read ct_Devices_read), sl_Devices_read⟩)
    (c_Devices_read : PySem.W.codeIn K cd_Devices_read "Devices.read" = true) (k_Devices_read : PySem.W.keepIn K (.ref f_Devices_read) = true)
    (a_Devices_write : PySem.W.findIn K (.ref C_Devices) "write" = some (some (.ref f_Devices_write)))
    (i_Devices_write : PySem.W.isFn K (.ref f_Devices_write) = true)
    (l_Devices_write : K.lookup f_Devices_write = some ⟨oc_Devices_write, od_Devices_write, .func (PySem.W.fnOf "write" "Devices.write" (defArgs s_Devices_write) (defBody s_Devices_write) (defScope s_Devices_write) .none kV_Devices_write dc_Devices_write pm_Devices_write an_Devices_write cd_Devices_write ct_Devices_write), sl_Devices_write⟩)
    (c_Devices_write : PySem.W.codeIn K cd_Devices_write "Devices.write" = true) (k_Devices_write : PySem.W.keepIn K (.ref f_Devices_write) = true)
    (a_Devices_raised : PySem.W.findIn K (.ref C_Devices) "raised" = some (some (.ref f_Devices_raised)))
    (i_Devices_raised : PySem.W.isFn K (.ref f_Devices_raised) = true)
    (l_Devices_raised : K.lookup f_Devices_raised = some ⟨oc_Devices_raised, od_Devices_raised, .func (PySem.W.fnOf "raised" "Devices.raised" (defArgs s_Devices_raised) (defBody s_Devices_raised) (defScope s_Devices_raised) .none kV_Devices_raised dc_Devices_raised pm_Devices_raised an_Devices_raised cd_Devices_raised ct_Devices_raised), sl_Devices_raised⟩)
    (c_Devices_raised : PySem.W.codeIn K cd_Devices_raised "Devices.raised" = true) (k_Devices_raised : PySem.W.keepIn K (.ref f_Devices_raised) = true)
    (a_Devices_counted : PySem.W.findIn K (.ref C_Devices) "counted" = some (some (.ref f_Devices_counted)))
    (i_Devices_counted : PySem.W.isFn K (.ref f_Devices_counted) = true)
    (l_Devices_counted : K.lookup f_Devices_counted = some ⟨oc_Devices_counted, od_Devices_counted, .func (PySem.W.fnOf "counted" "Devices.counted" (defArgs s_Devices_counted) (defBody s_Devices_counted) (defScope s_Devices_counted) .none kV_Devices_counted dc_Devices_counted pm_Devices_counted an_Devices_counted cd_Devices_counted ct_Devices_counted), sl_Devices_counted⟩)
    (c_Devices_counted : PySem.W.codeIn K cd_Devices_counted "Devices.counted" = true) (k_Devices_counted : PySem.W.keepIn K (.ref f_Devices_counted) = true)
    (a_Devices_due : PySem.W.findIn K (.ref C_Devices) "due" = some (some (.ref f_Devices_due)))
    (i_Devices_due : PySem.W.isFn K (.ref f_Devices_due) = true)
    (l_Devices_due : K.lookup f_Devices_due = some ⟨oc_Devices_due, od_Devices_due, .func (PySem.W.fnOf "due" "Devices.due" (defArgs s_Devices_due) (defBody s_Devices_due) (defScope s_Devices_due) .none kV_Devices_due dc_Devices_due pm_Devices_due an_Devices_due cd_Devices_due ct_Devices_due), sl_Devices_due⟩)
    (c_Devices_due : PySem.W.codeIn K cd_Devices_due "Devices.due" = true) (k_Devices_due : PySem.W.keepIn K (.ref f_Devices_due) = true)
    (a_Devices_lowered : PySem.W.findIn K (.ref C_Devices) "lowered" = some (some (.ref f_Devices_lowered)))
    (i_Devices_lowered : PySem.W.isFn K (.ref f_Devices_lowered) = true)
    (l_Devices_lowered : K.lookup f_Devices_lowered = some ⟨oc_Devices_lowered, od_Devices_lowered, .func (PySem.W.fnOf "lowered" "Devices.lowered" (defArgs s_Devices_lowered) (defBody s_Devices_lowered) (defScope s_Devices_lowered) .none kV_Devices_lowered dc_Devices_lowered pm_Devices_lowered an_Devices_lowered cd_Devices_lowered ct_Devices_lowered), sl_Devices_lowered⟩)
    (c_Devices_lowered : PySem.W.codeIn K cd_Devices_lowered "Devices.lowered" = true) (k_Devices_lowered : PySem.W.keepIn K (.ref f_Devices_lowered) = true)
    (a_Devices_outputs : PySem.W.findIn K (.ref C_Devices) "outputs" = some (some (.ref f_Devices_outputs)))
    (i_Devices_outputs : PySem.W.isFn K (.ref f_Devices_outputs) = true)
    (l_Devices_outputs : K.lookup f_Devices_outputs = some ⟨oc_Devices_outputs, od_Devices_outputs, .func (PySem.W.fnOf "outputs" "Devices.outputs" (defArgs s_Devices_outputs) (defBody s_Devices_outputs) (defScope s_Devices_outputs) .none kV_Devices_outputs dc_Devices_outputs pm_Devices_outputs an_Devices_outputs cd_Devices_outputs ct_Devices_outputs), sl_Devices_outputs⟩)
    (c_Devices_outputs : PySem.W.codeIn K cd_Devices_outputs "Devices.outputs" = true) (k_Devices_outputs : PySem.W.keepIn K (.ref f_Devices_outputs) = true)
    (a_Devices_left : PySem.W.findIn K (.ref C_Devices) "left" = some (some (.ref f_Devices_left)))
    (i_Devices_left : PySem.W.isFn K (.ref f_Devices_left) = true)
    (l_Devices_left : K.lookup f_Devices_left = some ⟨oc_Devices_left, od_Devices_left, .func (PySem.W.fnOf "left" "Devices.left" (defArgs s_Devices_left) (defBody s_Devices_left) (defScope s_Devices_left) .none kV_Devices_left dc_Devices_left pm_Devices_left an_Devices_left cd_Devices_left ct_Devices_left), sl_Devices_left⟩)
    (c_Devices_left : PySem.W.codeIn K cd_Devices_left "Devices.left" = true) (k_Devices_left : PySem.W.keepIn K (.ref f_Devices_left) = true)
    (a_Devices_steps : PySem.W.findIn K (.ref C_Devices) "steps" = some (some (.ref pa_Devices_steps))) (pg_Devices_steps : PySem.W.specialIn K (.ref pa_Devices_steps) "__get__" = some (some (.builtin "property.__get__"))) (pt_Devices_steps : PySem.W.takesIn K (.ref pa_Devices_steps) = some true) (pq_Devices_steps : PySem.W.recIn K pa_Devices_steps "property" = some (.ref f_Devices_steps :: pr_Devices_steps))
    (l_Devices_steps : K.lookup f_Devices_steps = some ⟨oc_Devices_steps, od_Devices_steps, .func (PySem.W.fnOf "steps" "Devices.steps" (defArgs s_Devices_steps) (defBody s_Devices_steps) (defScope s_Devices_steps) .none kV_Devices_steps dc_Devices_steps pm_Devices_steps an_Devices_steps cd_Devices_steps ct_Devices_steps), sl_Devices_steps⟩)
    (c_Devices_steps : PySem.W.codeIn K cd_Devices_steps "Devices.steps" = true) (k_Devices_steps : PySem.W.keepIn K (.ref f_Devices_steps) = true)
    (a_Devices_told : PySem.W.findIn K (.ref C_Devices) "told" = some (some (.ref f_Devices_told)))
    (i_Devices_told : PySem.W.isFn K (.ref f_Devices_told) = true)
    (l_Devices_told : K.lookup f_Devices_told = some ⟨oc_Devices_told, od_Devices_told, .func (PySem.W.fnOf "told" "Devices.told" (defArgs s_Devices_told) (defBody s_Devices_told) (defScope s_Devices_told) .none kV_Devices_told dc_Devices_told pm_Devices_told an_Devices_told cd_Devices_told ct_Devices_told), sl_Devices_told⟩)
    (c_Devices_told : PySem.W.codeIn K cd_Devices_told "Devices.told" = true) (k_Devices_told : PySem.W.keepIn K (.ref f_Devices_told) = true)
    (a_Devices_copy : PySem.W.findIn K (.ref C_Devices) "copy" = some (some (.ref f_Devices_copy)))
    (i_Devices_copy : PySem.W.isFn K (.ref f_Devices_copy) = true)
    (l_Devices_copy : K.lookup f_Devices_copy = some ⟨oc_Devices_copy, od_Devices_copy, .func (PySem.W.fnOf "copy" "Devices.copy" (defArgs s_Devices_copy) (defBody s_Devices_copy) (defScope s_Devices_copy) .none kV_Devices_copy dc_Devices_copy pm_Devices_copy an_Devices_copy cd_Devices_copy ct_Devices_copy), sl_Devices_copy⟩)
    (c_Devices_copy : PySem.W.codeIn K cd_Devices_copy "Devices.copy" = true) (k_Devices_copy : PySem.W.keepIn K (.ref f_Devices_copy) = true)
    (a_Devices_eq : PySem.W.findIn K (.ref C_Devices) "__eq__" = some (some (.ref f_Devices_eq)))
    (i_Devices_eq : PySem.W.isFn K (.ref f_Devices_eq) = true)
    (l_Devices_eq : K.lookup f_Devices_eq = some ⟨oc_Devices_eq, od_Devices_eq, .func (PySem.W.fnOf "__eq__" "Devices.__eq__" (defArgs s_Devices_eq) (defBody s_Devices_eq) (defScope s_Devices_eq) .none kV_Devices_eq dc_Devices_eq pm_Devices_eq an_Devices_eq cd_Devices_eq ct_Devices_eq), sl_Devices_eq⟩)
    (c_Devices_eq : PySem.W.codeIn K cd_Devices_eq "Devices.__eq__" = true) (k_Devices_eq : PySem.W.keepIn K (.ref f_Devices_eq) = true)
    (a_Devicesneed_there : PySem.W.findIn K (.ref C_Devices) "_need_there" = some (some (.ref f_Devicesneed_there)))
    (i_Devicesneed_there : PySem.W.isFn K (.ref f_Devicesneed_there) = true)
    (l_Devicesneed_there : K.lookup f_Devicesneed_there = some ⟨oc_Devicesneed_there, od_Devicesneed_there, .func (PySem.W.fnOf "_need_there" "Devices._need_there" (defArgs s_Devicesneed_there) (defBody s_Devicesneed_there) (defScope s_Devicesneed_there) .none kV_Devicesneed_there dc_Devicesneed_there pm_Devicesneed_there an_Devicesneed_there cd_Devicesneed_there ct_Devicesneed_there), sl_Devicesneed_there⟩)
    (c_Devicesneed_there : PySem.W.codeIn K cd_Devicesneed_there "Devices._need_there" = true) (k_Devicesneed_there : PySem.W.keepIn K (.ref f_Devicesneed_there) = true)
    (a_are_inputs : PySem.W.nsIn K mainGlobals "are_inputs" = some (some (.ref f_are_inputs)))
    (l_are_inputs : K.lookup f_are_inputs = some ⟨oc_are_inputs, od_are_inputs, .func (PySem.W.fnOf "are_inputs" "are_inputs" (defArgs s_are_inputs) (defBody s_are_inputs) (defScope s_are_inputs) .none kV_are_inputs dc_are_inputs pm_are_inputs an_are_inputs cd_are_inputs ct_are_inputs), sl_are_inputs⟩)
    (c_are_inputs : PySem.W.codeIn K cd_are_inputs "are_inputs" = true) (k_are_inputs : PySem.W.keepIn K (.ref f_are_inputs) = true)
    (a_is_line : PySem.W.nsIn K mainGlobals "is_line" = some (some (.ref f_is_line)))
    (l_is_line : K.lookup f_is_line = some ⟨oc_is_line, od_is_line, .func (PySem.W.fnOf "is_line" "is_line" (defArgs s_is_line) (defBody s_is_line) (defScope s_is_line) .none kV_is_line dc_is_line pm_is_line an_is_line cd_is_line ct_is_line), sl_is_line⟩)
    (c_is_line : PySem.W.codeIn K cd_is_line "is_line" = true) (k_is_line : PySem.W.keepIn K (.ref f_is_line) = true)
    (a_need_line : PySem.W.nsIn K mainGlobals "need_line" = some (some (.ref f_need_line)))
    (l_need_line : K.lookup f_need_line = some ⟨oc_need_line, od_need_line, .func (PySem.W.fnOf "need_line" "need_line" (defArgs s_need_line) (defBody s_need_line) (defScope s_need_line) .none kV_need_line dc_need_line pm_need_line an_need_line cd_need_line ct_need_line), sl_need_line⟩)
    (c_need_line : PySem.W.codeIn K cd_need_line "need_line" = true) (k_need_line : PySem.W.keepIn K (.ref f_need_line) = true)
    (a_Lpot : PySem.W.nsIn K mainGlobals "_law_pot" = some (some (.ref f_Lpot)))
    (l_Lpot : K.lookup f_Lpot = some ⟨oc_Lpot, od_Lpot, .func (PySem.W.fnOf "_law_pot" "_law_pot" (defArgs s_Lpot) (defBody s_Lpot) (defScope s_Lpot) .none kV_Lpot dc_Lpot pm_Lpot an_Lpot cd_Lpot ct_Lpot), sl_Lpot⟩)
    (c_Lpot : PySem.W.codeIn K cd_Lpot "_law_pot" = true) (k_Lpot : PySem.W.keepIn K (.ref f_Lpot) = true)
    (a_Ldraw : PySem.W.nsIn K mainGlobals "_law_draw" = some (some (.ref f_Ldraw)))
    (l_Ldraw : K.lookup f_Ldraw = some ⟨oc_Ldraw, od_Ldraw, .func (PySem.W.fnOf "_law_draw" "_law_draw" (defArgs s_Ldraw) (defBody s_Ldraw) (defScope s_Ldraw) .none kV_Ldraw dc_Ldraw pm_Ldraw an_Ldraw cd_Ldraw ct_Ldraw), sl_Ldraw⟩)
    (c_Ldraw : PySem.W.codeIn K cd_Ldraw "_law_draw" = true) (k_Ldraw : PySem.W.keepIn K (.ref f_Ldraw) = true)
    (a_Lpick : PySem.W.nsIn K mainGlobals "_law_pick" = some (some (.ref f_Lpick)))
    (l_Lpick : K.lookup f_Lpick = some ⟨oc_Lpick, od_Lpick, .func (PySem.W.fnOf "_law_pick" "_law_pick" (defArgs s_Lpick) (defBody s_Lpick) (defScope s_Lpick) .none kV_Lpick dc_Lpick pm_Lpick an_Lpick cd_Lpick ct_Lpick), sl_Lpick⟩)
    (c_Lpick : PySem.W.codeIn K cd_Lpick "_law_pick" = true) (k_Lpick : PySem.W.keepIn K (.ref f_Lpick) = true)
    (a_Ltold : PySem.W.nsIn K mainGlobals "_law_told" = some (some (.ref f_Ltold)))
    (l_Ltold : K.lookup f_Ltold = some ⟨oc_Ltold, od_Ltold, .func (PySem.W.fnOf "_law_told" "_law_told" (defArgs s_Ltold) (defBody s_Ltold) (defScope s_Ltold) .none kV_Ltold dc_Ltold pm_Ltold an_Ltold cd_Ltold ct_Ltold), sl_Ltold⟩)
    (c_Ltold : PySem.W.codeIn K cd_Ltold "_law_told" = true) (k_Ltold : PySem.W.keepIn K (.ref f_Ltold) = true)
    (a_Lread : PySem.W.nsIn K mainGlobals "_law_read" = some (some (.ref f_Lread)))
    (l_Lread : K.lookup f_Lread = some ⟨oc_Lread, od_Lread, .func (PySem.W.fnOf "_law_read" "_law_read" (defArgs s_Lread) (defBody s_Lread) (defScope s_Lread) .none kV_Lread dc_Lread pm_Lread an_Lread cd_Lread ct_Lread), sl_Lread⟩)
    (c_Lread : PySem.W.codeIn K cd_Lread "_law_read" = true) (k_Lread : PySem.W.keepIn K (.ref f_Lread) = true)
    (a_Ldue : PySem.W.nsIn K mainGlobals "_law_due" = some (some (.ref f_Ldue)))
    (l_Ldue : K.lookup f_Ldue = some ⟨oc_Ldue, od_Ldue, .func (PySem.W.fnOf "_law_due" "_law_due" (defArgs s_Ldue) (defBody s_Ldue) (defScope s_Ldue) .none kV_Ldue dc_Ldue pm_Ldue an_Ldue cd_Ldue ct_Ldue), sl_Ldue⟩)
    (c_Ldue : PySem.W.codeIn K cd_Ldue "_law_due" = true) (k_Ldue : PySem.W.keepIn K (.ref f_Ldue) = true)
    (a_Ldeed : PySem.W.nsIn K mainGlobals "_law_deed" = some (some (.ref f_Ldeed)))
    (l_Ldeed : K.lookup f_Ldeed = some ⟨oc_Ldeed, od_Ldeed, .func (PySem.W.fnOf "_law_deed" "_law_deed" (defArgs s_Ldeed) (defBody s_Ldeed) (defScope s_Ldeed) .none kV_Ldeed dc_Ldeed pm_Ldeed an_Ldeed cd_Ldeed ct_Ldeed), sl_Ldeed⟩)
    (c_Ldeed : PySem.W.codeIn K cd_Ldeed "_law_deed" = true) (k_Ldeed : PySem.W.keepIn K (.ref f_Ldeed) = true)
    (a_Lright : PySem.W.nsIn K mainGlobals "_law_right" = some (some (.ref f_Lright)))
    (l_Lright : K.lookup f_Lright = some ⟨oc_Lright, od_Lright, .func (PySem.W.fnOf "_law_right" "_law_right" (defArgs s_Lright) (defBody s_Lright) (defScope s_Lright) .none kV_Lright dc_Lright pm_Lright an_Lright cd_Lright ct_Lright), sl_Lright⟩)
    (c_Lright : PySem.W.codeIn K cd_Lright "_law_right" = true) (k_Lright : PySem.W.keepIn K (.ref f_Lright) = true)
    (a_law : PySem.W.nsIn K mainGlobals "law" = some (some (.ref f_law)))
    (l_law : K.lookup f_law = some ⟨oc_law, od_law, .func (PySem.W.fnOf "law" "law" (defArgs s_law) (defBody s_law) (defScope s_law) .none kV_law dc_law pm_law an_law cd_law ct_law), sl_law⟩)
    (c_law : PySem.W.codeIn K cd_law "law" = true) (k_law : PySem.W.keepIn K (.ref f_law) = true)
    (z_abs : PySem.W.nsIn K mainGlobals "abs" = some none)
    (z_all : PySem.W.nsIn K mainGlobals "all" = some none)
    (z_bool : PySem.W.nsIn K mainGlobals "bool" = some none)
    (z_divmod : PySem.W.nsIn K mainGlobals "divmod" = some none)
    (z_int : PySem.W.nsIn K mainGlobals "int" = some none)
    (z_isinstance : PySem.W.nsIn K mainGlobals "isinstance" = some none)
    (z_len : PySem.W.nsIn K mainGlobals "len" = some none)
    (z_list : PySem.W.nsIn K mainGlobals "list" = some none)
    (z_max : PySem.W.nsIn K mainGlobals "max" = some none)
    (z_range : PySem.W.nsIn K mainGlobals "range" = some none)
    (z_repr : PySem.W.nsIn K mainGlobals "repr" = some none)
    (z_tuple : PySem.W.nsIn K mainGlobals "tuple" = some none)
    (x_WORDS : PySem.W.nsIn K mainGlobals "WORDS" = some (some (.int 65536 t_WORDS)))
    (x__INPUT_OUTPUT : PySem.W.nsIn K mainGlobals "_INPUT_OUTPUT" = some (some (.int 960 t__INPUT_OUTPUT)))
    (x__LEFT : PySem.W.nsIn K mainGlobals "_LEFT" = some (some (.int 961 t__LEFT)))
    (x__STEPS : PySem.W.nsIn K mainGlobals "_STEPS" = some (some (.int 976 t__STEPS)))
    (x__TIMER : PySem.W.nsIn K mainGlobals "_TIMER" = some (some (.int 977 t__TIMER)))
    (x__LINES : PySem.W.nsIn K mainGlobals "_LINES" = some (some (.int 4 t__LINES)))
    (x__TIMER_LINE : PySem.W.nsIn K mainGlobals "_TIMER_LINE" = some (some (.int 0 t__TIMER_LINE)))
    (x__MOST_INPUTS : PySem.W.nsIn K mainGlobals "_MOST_INPUTS" = some (some (.int 40 t__MOST_INPUTS)))
    (ic_Devices : PySem.W.findIn K (.ref C_Devices) "__class__" = some (some (.builtin "object.__class__"))) (in_Devices : PySem.W.specialIn K (.builtin "object.__class__") "__get__" = some (some (.builtin "getset_descriptor.__get__"))) (it_Devices : PySem.W.takesIn K (.builtin "object.__class__") = some true) (im_Devices : PySem.W.mroIn K C_Devices (.type "object") = some true)
    : ∃ fd : FuncData, (∀ (s : Shared) (v : Value), BindsTo s fd ⟨[v], []⟩ [("_law_script", v)]) ∧ ∀ base : Heap, K.In base → base.Ns mainGlobals mg → FnG l.prog w K mg base 10 fa fd ["_law_script"] (sp_law K) := by
  have e := hfa.symm.trans (PySem.W.mg_of X G a_law)
  cases e
  let T : Txt K mg := {
    C_Devices := C_Devices, cl_Devices := ⟨pg_Devices, hd_Devices, po_Devices, sa_Devices⟩, g_Devices := PySem.W.mg_of X G aC_Devices,
    n_Devices_left := n_Devices_left,
    n_Devices_outputs := n_Devices_outputs,
    n_Devices_counted := n_Devices_counted,
    n_Devices_timer := n_Devices_timer,
    n_Devices_lines := n_Devices_lines,
    f_is_integer := _, fd_is_integer := _, F_is_integer := fun_mk (st := s_is_integer) l_is_integer c_is_integer k_is_integer,
    g_is_integer := PySem.W.mg_of X G a_is_integer,
    b_is_integer := (fun_mk (st := s_is_integer) l_is_integer c_is_integer k_is_integer).binds (ps := ["value"]) fun _ _ _ _ _ _ us hl => match us, hl with | [_], _ => rfl,
    f_is_between := _, fd_is_between := _, F_is_between := fun_mk (st := s_is_between) l_is_between c_is_between k_is_between,
    g_is_between := PySem.W.mg_of X G a_is_between,
    b_is_between := (fun_mk (st := s_is_between) l_is_between c_is_between k_is_between).binds (ps := ["value", "least", "most"]) fun _ _ _ _ _ _ us hl => match us, hl with | [_, _, _], _ => rfl,
    f_is_list := _, fd_is_list := _, F_is_list := fun_mk (st := s_is_list) l_is_list c_is_list k_is_list,
    g_is_list := PySem.W.mg_of X G a_is_list,
    b_is_list := (fun_mk (st := s_is_list) l_is_list c_is_list k_is_list).binds (ps := ["value"]) fun _ _ _ _ _ _ us hl => match us, hl with | [_], _ => rfl,
    f_is_word := _, fd_is_word := _, F_is_word := fun_mk (st := s_is_word) l_is_word c_is_word k_is_word,
    g_is_word := PySem.W.mg_of X G a_is_word,
    b_is_word := (fun_mk (st := s_is_word) l_is_word c_is_word k_is_word).binds (ps := ["value"]) fun _ _ _ _ _ _ us hl => match us, hl with | [_], _ => rfl,
    f_is_word_list := _, fd_is_word_list := _, F_is_word_list := fun_mk (st := s_is_word_list) l_is_word_list c_is_word_list k_is_word_list,
    g_is_word_list := PySem.W.mg_of X G a_is_word_list,
    b_is_word_list := (fun_mk (st := s_is_word_list) l_is_word_list c_is_word_list k_is_word_list).binds (ps := ["value"]) fun _ _ _ _ _ _ us hl => match us, hl with | [_], _ => rfl,
    f_need_word := _, fd_need_word := _, F_need_word := fun_mk (st := s_need_word) l_need_word c_need_word k_need_word,
    g_need_word := PySem.W.mg_of X G a_need_word,
    b_need_word := (fun_mk (st := s_need_word) l_need_word c_need_word k_need_word).binds (ps := ["value"]) fun _ _ _ _ _ _ us hl => match us, hl with | [_], _ => rfl,
    mk_Devices := ⟨mk_Devices, a_Devices_init, i_Devices_init, kc_Devices⟩,
    f_Devices_init := _, fd_Devices_init := _, F_Devices_init := fun_mk (st := s_Devices_init) l_Devices_init c_Devices_init k_Devices_init,
    b_Devices_init := (fun_mk (st := s_Devices_init) l_Devices_init c_Devices_init k_Devices_init).binds (ps := ["self", "inputs"]) fun _ _ _ _ _ _ us hl => match us, hl with | [_, _], _ => rfl,
    me_Devices_can := ⟨a_Devices_can, i_Devices_can, k_Devices_can⟩,
    f_Devices_can := _, fd_Devices_can := _, F_Devices_can := fun_mk (st := s_Devices_can) l_Devices_can c_Devices_can k_Devices_can,
    b_Devices_can := (fun_mk (st := s_Devices_can) l_Devices_can c_Devices_can k_Devices_can).binds (ps := ["self", "place"]) fun _ _ _ _ _ _ us hl => match us, hl with | [_, _], _ => rfl,
    me_Devices_read := ⟨a_Devices_read, i_Devices_read, k_Devices_read⟩,
    f_Devices_read := _, fd_Devices_read := _, F_Devices_read := fun_mk (st := s_Devices_read) l_Devices_read c_Devices_read k_Devices_read,
    b_Devices_read := (fun_mk (st := s_Devices_read) l_Devices_read c_Devices_read k_Devices_read).binds (ps := ["self", "place"]) fun _ _ _ _ _ _ us hl => match us, hl with | [_, _], _ => rfl,
    kb_Devices_read := kw_bindsM (fun_mk (st := s_Devices_read) l_Devices_read c_Devices_read k_Devices_read) (by decide) fun _ _ _ _ _ _ u us hl => match us, hl with | [_], _ => rfl,
    me_Devices_write := ⟨a_Devices_write, i_Devices_write, k_Devices_write⟩,
    f_Devices_write := _, fd_Devices_write := _, F_Devices_write := fun_mk (st := s_Devices_write) l_Devices_write c_Devices_write k_Devices_write,
    b_Devices_write := (fun_mk (st := s_Devices_write) l_Devices_write c_Devices_write k_Devices_write).binds (ps := ["self", "place", "word"]) fun _ _ _ _ _ _ us hl => match us, hl with | [_, _, _], _ => rfl,
    kbr_Devices_write := kw_bindsR (fun_mk (st := s_Devices_write) l_Devices_write c_Devices_write k_Devices_write) rfl fun _ _ _ _ _ _ _ _ _ => rfl,
    me_Devices_raised := ⟨a_Devices_raised, i_Devices_raised, k_Devices_raised⟩,
    f_Devices_raised := _, fd_Devices_raised := _, F_Devices_raised := fun_mk (st := s_Devices_raised) l_Devices_raised c_Devices_raised k_Devices_raised,
    b_Devices_raised := (fun_mk (st := s_Devices_raised) l_Devices_raised c_Devices_raised k_Devices_raised).binds (ps := ["self", "line"]) fun _ _ _ _ _ _ us hl => match us, hl with | [_, _], _ => rfl,
    me_Devices_counted := ⟨a_Devices_counted, i_Devices_counted, k_Devices_counted⟩,
    f_Devices_counted := _, fd_Devices_counted := _, F_Devices_counted := fun_mk (st := s_Devices_counted) l_Devices_counted c_Devices_counted k_Devices_counted,
    b_Devices_counted := (fun_mk (st := s_Devices_counted) l_Devices_counted c_Devices_counted k_Devices_counted).binds (ps := ["self"]) fun _ _ _ _ _ _ us hl => match us, hl with | [_], _ => rfl,
    me_Devices_due := ⟨a_Devices_due, i_Devices_due, k_Devices_due⟩,
    f_Devices_due := _, fd_Devices_due := _, F_Devices_due := fun_mk (st := s_Devices_due) l_Devices_due c_Devices_due k_Devices_due,
    b_Devices_due := (fun_mk (st := s_Devices_due) l_Devices_due c_Devices_due k_Devices_due).binds (ps := ["self", "mask"]) fun _ _ _ _ _ _ us hl => match us, hl with | [_, _], _ => rfl,
    kb_Devices_due := kw_bindsM (fun_mk (st := s_Devices_due) l_Devices_due c_Devices_due k_Devices_due) (by decide) fun _ _ _ _ _ _ u us hl => match us, hl with | [_], _ => rfl,
    me_Devices_lowered := ⟨a_Devices_lowered, i_Devices_lowered, k_Devices_lowered⟩,
    f_Devices_lowered := _, fd_Devices_lowered := _, F_Devices_lowered := fun_mk (st := s_Devices_lowered) l_Devices_lowered c_Devices_lowered k_Devices_lowered,
    b_Devices_lowered := (fun_mk (st := s_Devices_lowered) l_Devices_lowered c_Devices_lowered k_Devices_lowered).binds (ps := ["self", "line"]) fun _ _ _ _ _ _ us hl => match us, hl with | [_, _], _ => rfl,
    me_Devices_outputs := ⟨a_Devices_outputs, i_Devices_outputs, k_Devices_outputs⟩,
    f_Devices_outputs := _, fd_Devices_outputs := _, F_Devices_outputs := fun_mk (st := s_Devices_outputs) l_Devices_outputs c_Devices_outputs k_Devices_outputs,
    b_Devices_outputs := (fun_mk (st := s_Devices_outputs) l_Devices_outputs c_Devices_outputs k_Devices_outputs).binds (ps := ["self"]) fun _ _ _ _ _ _ us hl => match us, hl with | [_], _ => rfl,
    me_Devices_left := ⟨a_Devices_left, i_Devices_left, k_Devices_left⟩,
    f_Devices_left := _, fd_Devices_left := _, F_Devices_left := fun_mk (st := s_Devices_left) l_Devices_left c_Devices_left k_Devices_left,
    b_Devices_left := (fun_mk (st := s_Devices_left) l_Devices_left c_Devices_left k_Devices_left).binds (ps := ["self"]) fun _ _ _ _ _ _ us hl => match us, hl with | [_], _ => rfl,
    pa_Devices_steps := pa_Devices_steps, p_Devices_steps := ⟨a_Devices_steps, pg_Devices_steps, pt_Devices_steps, ⟨_, pq_Devices_steps⟩⟩,
    f_Devices_steps := _, fd_Devices_steps := _, F_Devices_steps := fun_mk (st := s_Devices_steps) l_Devices_steps c_Devices_steps k_Devices_steps,
    b_Devices_steps := (fun_mk (st := s_Devices_steps) l_Devices_steps c_Devices_steps k_Devices_steps).binds (ps := ["self"]) fun _ _ _ _ _ _ us hl => match us, hl with | [_], _ => rfl,
    me_Devices_told := ⟨a_Devices_told, i_Devices_told, k_Devices_told⟩,
    f_Devices_told := _, fd_Devices_told := _, F_Devices_told := fun_mk (st := s_Devices_told) l_Devices_told c_Devices_told k_Devices_told,
    b_Devices_told := (fun_mk (st := s_Devices_told) l_Devices_told c_Devices_told k_Devices_told).binds (ps := ["self"]) fun _ _ _ _ _ _ us hl => match us, hl with | [_], _ => rfl,
    me_Devices_copy := ⟨a_Devices_copy, i_Devices_copy, k_Devices_copy⟩,
    f_Devices_copy := _, fd_Devices_copy := _, F_Devices_copy := fun_mk (st := s_Devices_copy) l_Devices_copy c_Devices_copy k_Devices_copy,
    b_Devices_copy := (fun_mk (st := s_Devices_copy) l_Devices_copy c_Devices_copy k_Devices_copy).binds (ps := ["self"]) fun _ _ _ _ _ _ us hl => match us, hl with | [_], _ => rfl,
    me_Devices_eq := ⟨a_Devices_eq, i_Devices_eq, k_Devices_eq⟩,
    f_Devices_eq := _, fd_Devices_eq := _, F_Devices_eq := fun_mk (st := s_Devices_eq) l_Devices_eq c_Devices_eq k_Devices_eq,
    b_Devices_eq := (fun_mk (st := s_Devices_eq) l_Devices_eq c_Devices_eq k_Devices_eq).binds (ps := ["self", "other"]) fun _ _ _ _ _ _ us hl => match us, hl with | [_, _], _ => rfl,
    me_Devicesneed_there := ⟨a_Devicesneed_there, i_Devicesneed_there, k_Devicesneed_there⟩,
    f_Devicesneed_there := _, fd_Devicesneed_there := _, F_Devicesneed_there := fun_mk (st := s_Devicesneed_there) l_Devicesneed_there c_Devicesneed_there k_Devicesneed_there,
    b_Devicesneed_there := (fun_mk (st := s_Devicesneed_there) l_Devicesneed_there c_Devicesneed_there k_Devicesneed_there).binds (ps := ["self", "place"]) fun _ _ _ _ _ _ us hl => match us, hl with | [_, _], _ => rfl,
    f_are_inputs := _, fd_are_inputs := _, F_are_inputs := fun_mk (st := s_are_inputs) l_are_inputs c_are_inputs k_are_inputs,
    g_are_inputs := PySem.W.mg_of X G a_are_inputs,
    b_are_inputs := (fun_mk (st := s_are_inputs) l_are_inputs c_are_inputs k_are_inputs).binds (ps := ["value"]) fun _ _ _ _ _ _ us hl => match us, hl with | [_], _ => rfl,
    f_is_line := _, fd_is_line := _, F_is_line := fun_mk (st := s_is_line) l_is_line c_is_line k_is_line,
    g_is_line := PySem.W.mg_of X G a_is_line,
    b_is_line := (fun_mk (st := s_is_line) l_is_line c_is_line k_is_line).binds (ps := ["value"]) fun _ _ _ _ _ _ us hl => match us, hl with | [_], _ => rfl,
    f_need_line := _, fd_need_line := _, F_need_line := fun_mk (st := s_need_line) l_need_line c_need_line k_need_line,
    g_need_line := PySem.W.mg_of X G a_need_line,
    b_need_line := (fun_mk (st := s_need_line) l_need_line c_need_line k_need_line).binds (ps := ["value"]) fun _ _ _ _ _ _ us hl => match us, hl with | [_], _ => rfl,
    f_Lpot := _, fd_Lpot := _, F_Lpot := fun_mk (st := s_Lpot) l_Lpot c_Lpot k_Lpot,
    g_Lpot := PySem.W.mg_of X G a_Lpot,
    b_Lpot := (fun_mk (st := s_Lpot) l_Lpot c_Lpot k_Lpot).binds (ps := ["_law_script", "_law_k"]) fun _ _ _ _ _ _ us hl => match us, hl with | [_, _], _ => rfl,
    f_Ldraw := _, fd_Ldraw := _, F_Ldraw := fun_mk (st := s_Ldraw) l_Ldraw c_Ldraw k_Ldraw,
    g_Ldraw := PySem.W.mg_of X G a_Ldraw,
    b_Ldraw := (fun_mk (st := s_Ldraw) l_Ldraw c_Ldraw k_Ldraw).binds (ps := ["_law_pot_here", "_law_many"]) fun _ _ _ _ _ _ us hl => match us, hl with | [_, _], _ => rfl,
    f_Lpick := _, fd_Lpick := _, F_Lpick := fun_mk (st := s_Lpick) l_Lpick c_Lpick k_Lpick,
    g_Lpick := PySem.W.mg_of X G a_Lpick,
    b_Lpick := (fun_mk (st := s_Lpick) l_Lpick c_Lpick k_Lpick).binds (ps := ["_law_pot_here", "_law_some"]) fun _ _ _ _ _ _ us hl => match us, hl with | [_, _], _ => rfl,
    f_Ltold := _, fd_Ltold := _, F_Ltold := fun_mk (st := s_Ltold) l_Ltold c_Ltold k_Ltold,
    g_Ltold := PySem.W.mg_of X G a_Ltold,
    b_Ltold := (fun_mk (st := s_Ltold) l_Ltold c_Ltold k_Ltold).binds (ps := ["_law_parts"]) fun _ _ _ _ _ _ us hl => match us, hl with | [_], _ => rfl,
    f_Lread := _, fd_Lread := _, F_Lread := fun_mk (st := s_Lread) l_Lread c_Lread k_Lread,
    g_Lread := PySem.W.mg_of X G a_Lread,
    b_Lread := (fun_mk (st := s_Lread) l_Lread c_Lread k_Lread).binds (ps := ["_law_parts", "_law_place"]) fun _ _ _ _ _ _ us hl => match us, hl with | [_, _], _ => rfl,
    f_Ldue := _, fd_Ldue := _, F_Ldue := fun_mk (st := s_Ldue) l_Ldue c_Ldue k_Ldue,
    g_Ldue := PySem.W.mg_of X G a_Ldue,
    b_Ldue := (fun_mk (st := s_Ldue) l_Ldue c_Ldue k_Ldue).binds (ps := ["_law_parts", "_law_mask"]) fun _ _ _ _ _ _ us hl => match us, hl with | [_, _], _ => rfl,
    f_Ldeed := _, fd_Ldeed := _, F_Ldeed := fun_mk (st := s_Ldeed) l_Ldeed c_Ldeed k_Ldeed,
    g_Ldeed := PySem.W.mg_of X G a_Ldeed,
    b_Ldeed := (fun_mk (st := s_Ldeed) l_Ldeed c_Ldeed k_Ldeed).binds (ps := ["_law_pot_here", "_law_devices", "_law_parts"]) fun _ _ _ _ _ _ us hl => match us, hl with | [_, _, _], _ => rfl,
    f_Lright := _, fd_Lright := _, F_Lright := fun_mk (st := s_Lright) l_Lright c_Lright k_Lright,
    g_Lright := PySem.W.mg_of X G a_Lright,
    b_Lright := (fun_mk (st := s_Lright) l_Lright c_Lright k_Lright).binds (ps := ["_law_pot_here"]) fun _ _ _ _ _ _ us hl => match us, hl with | [_], _ => rfl,
    f_law := _, fd_law := _, F_law := fun_mk (st := s_law) l_law c_law k_law,
    g_law := PySem.W.mg_of X G a_law,
    b_law := (fun_mk (st := s_law) l_law c_law k_law).binds (ps := ["_law_script"]) fun _ _ _ _ _ _ us hl => match us, hl with | [_], _ => rfl,
    m_abs := PySem.W.mg_none_of X G z_abs,
    m_all := PySem.W.mg_none_of X G z_all,
    m_bool := PySem.W.mg_none_of X G z_bool,
    m_divmod := PySem.W.mg_none_of X G z_divmod,
    m_int := PySem.W.mg_none_of X G z_int,
    m_isinstance := PySem.W.mg_none_of X G z_isinstance,
    m_len := PySem.W.mg_none_of X G z_len,
    m_list := PySem.W.mg_none_of X G z_list,
    m_max := PySem.W.mg_none_of X G z_max,
    m_range := PySem.W.mg_none_of X G z_range,
    m_repr := PySem.W.mg_none_of X G z_repr,
    m_tuple := PySem.W.mg_none_of X G z_tuple,
    c_WORDS := ⟨_, PySem.W.mg_of X G x_WORDS⟩,
    c__INPUT_OUTPUT := ⟨_, PySem.W.mg_of X G x__INPUT_OUTPUT⟩,
    c__LEFT := ⟨_, PySem.W.mg_of X G x__LEFT⟩,
    c__STEPS := ⟨_, PySem.W.mg_of X G x__STEPS⟩,
    c__TIMER := ⟨_, PySem.W.mg_of X G x__TIMER⟩,
    c__LINES := ⟨_, PySem.W.mg_of X G x__LINES⟩,
    c__TIMER_LINE := ⟨_, PySem.W.mg_of X G x__TIMER_LINE⟩,
    c__MOST_INPUTS := ⟨_, PySem.W.mg_of X G x__MOST_INPUTS⟩,
    ic_Devices := ic_Devices,
    in_Devices := in_Devices,
    it_Devices := it_Devices,
    im_Devices := im_Devices }
  exact ⟨_, fun s v => .of_eq rfl, fun base _ _ => ok_law (P := l.prog) (w := w) (base := base) T⟩
theorem walk {l : PySem.W.OpenLaw} {q : Program} {loose : List Str} {XP : (Str → Option Value) → Heap → Prop} {YP : World → Heap → Prop} {d : DefRec} {K : Params → PySem.W.Frag} (hn : l.most = some 63) (hdf : d.params.defaults = [])
    (hY : ∀ (w : World) (h : Heap), YP w h → (K w.params).In h)
    (F : ∀ (w : World) (mg : Str → Option Value) (fa : Addr) (h : Heap), (K w.params).In h → h.Ns mainGlobals mg → mg d.name = some (.ref fa) →
      ∃ fd : FuncData, (∀ (s : Shared) (u : Value), BindsTo s fd ⟨[u], []⟩ [("_law_script", u)]) ∧ ∀ base : Heap, (K w.params).In base → base.Ns mainGlobals mg → FnG l.prog w (K w.params) mg base 10 fa fd ["_law_script"] (sp_law (K w.params))) :
    PySem.W.WalkO q loose XP YP l.row.toRowW d [] (fun f vs => PySem.call f vs) :=
  walk_ofG (n := 63) (k := 10) (x := "_law_script") (sp := fun w => sp_law (K w.params)) hn (by decide) hdf ⟨rfl, by decide, by decide⟩ hY F (fun _ _ a ns hl _ hS => ⟨a, ns, rfl, hS, hl, fun _ => rfl⟩)
end K32
open PySem PySem.W PyProof.Rows
set_option maxRecDepth 100000 in
set_option maxHeartbeats 0 in
theorem PySem.Challenge.cw_orderlycore_k32_whole_devices_by_their_d_holds : PySem.Challenge.rw_orderlycore_k32_whole_devices_by_their_d.Holds := by
  w_on; o_law; k_head; (case hw => w_witness2)
  k_fill
  refine K32.walk (l := PySem.Challenge.rw_orderlycore_k32_whole_devices_by_their_d) rfl rfl (fun w h Y => PySem.W.kIn_of Y) ?F
  case F =>
    intro w mg fa h KX G hmg
    refine' K32.all_mk KX G hmg ?aC_Devices ?pg_Devices ?hd_Devices ?po_Devices ?sa_Devices ?mk_Devices ?kc_Devices ?n_Devices_left ?n_Devices_outputs ?n_Devices_counted ?n_Devices_timer ?n_Devices_lines ?a_is_integer ?l_is_integer ?c_is_integer ?k_is_integer ?a_is_between ?l_is_between ?c_is_between ?k_is_between ?a_is_list ?l_is_list ?c_is_list ?k_is_list ?a_is_word ?l_is_word ?c_is_word ?k_is_word ?a_is_word_list ?l_is_word_list ?c_is_word_list ?k_is_word_list ?a_need_word ?l_need_word ?c_need_word ?k_need_word ?a_Devices_init ?i_Devices_init ?l_Devices_init ?c_Devices_init ?k_Devices_init ?a_Devices_can ?i_Devices_can ?l_Devices_can ?c_Devices_can ?k_Devices_can ?a_Devices_read ?i_Devices_read ?l_Devices_read ?c_Devices_read ?k_Devices_read ?a_Devices_write ?i_Devices_write ?l_Devices_write ?c_Devices_write ?k_Devices_write ?a_Devices_raised ?i_Devices_raised ?l_Devices_raised ?c_Devices_raised ?k_Devices_raised ?a_Devices_counted ?i_Devices_counted ?l_Devices_counted ?c_Devices_counted ?k_Devices_counted ?a_Devices_due ?i_Devices_due ?l_Devices_due ?c_Devices_due ?k_Devices_due ?a_Devices_lowered ?i_Devices_lowered ?l_Devices_lowered ?c_Devices_lowered ?k_Devices_lowered ?a_Devices_outputs ?i_Devices_outputs ?l_Devices_outputs ?c_Devices_outputs ?k_Devices_outputs ?a_Devices_left ?i_Devices_left ?l_Devices_left ?c_Devices_left ?k_Devices_left ?a_Devices_steps ?pg_Devices_steps ?pt_Devices_steps ?pq_Devices_steps ?l_Devices_steps ?c_Devices_steps ?k_Devices_steps ?a_Devices_told ?i_Devices_told ?l_Devices_told ?c_Devices_told ?k_Devices_told ?a_Devices_copy ?i_Devices_copy ?l_Devices_copy ?c_Devices_copy ?k_Devices_copy ?a_Devices_eq ?i_Devices_eq ?l_Devices_eq ?c_Devices_eq ?k_Devices_eq ?a_Devicesneed_there ?i_Devicesneed_there ?l_Devicesneed_there ?c_Devicesneed_there ?k_Devicesneed_there ?a_are_inputs ?l_are_inputs ?c_are_inputs ?k_are_inputs ?a_is_line ?l_is_line ?c_is_line ?k_is_line ?a_need_line ?l_need_line ?c_need_line ?k_need_line ?a_Lpot ?l_Lpot ?c_Lpot ?k_Lpot ?a_Ldraw ?l_Ldraw ?c_Ldraw ?k_Ldraw ?a_Lpick ?l_Lpick ?c_Lpick ?k_Lpick ?a_Ltold ?l_Ltold ?c_Ltold ?k_Ltold ?a_Lread ?l_Lread ?c_Lread ?k_Lread ?a_Ldue ?l_Ldue ?c_Ldue ?k_Ldue ?a_Ldeed ?l_Ldeed ?c_Ldeed ?k_Ldeed ?a_Lright ?l_Lright ?c_Lright ?k_Lright ?a_law ?l_law ?c_law ?k_law ?z_abs ?z_all ?z_bool ?z_divmod ?z_int ?z_isinstance ?z_len ?z_list ?z_max ?z_range ?z_repr ?z_tuple ?x_WORDS ?x__INPUT_OUTPUT ?x__LEFT ?x__STEPS ?x__TIMER ?x__LINES ?x__TIMER_LINE ?x__MOST_INPUTS ?ic_Devices ?in_Devices ?it_Devices ?im_Devices
    (case aC_Devices => k_is)
    (case pg_Devices => k_is)
    (case hd_Devices => k_is)
    (case po_Devices => k_is)
    (case sa_Devices => k_is)
    (case mk_Devices => k_is)
    (case kc_Devices => k_is)
    (case n_Devices_left => k_is)
    (case n_Devices_outputs => k_is)
    (case n_Devices_counted => k_is)
    (case n_Devices_timer => k_is)
    (case n_Devices_lines => k_is)
    (case a_is_integer => k_is)
    (case l_is_integer => k_is)
    (case c_is_integer => k_is)
    (case k_is_integer => k_is)
    (case a_is_between => k_is)
    (case l_is_between => k_is)
    (case c_is_between => k_is)
    (case k_is_between => k_is)
    (case a_is_list => k_is)
    (case l_is_list => k_is)
    (case c_is_list => k_is)
    (case k_is_list => k_is)
    (case a_is_word => k_is)
    (case l_is_word => k_is)
    (case c_is_word => k_is)
    (case k_is_word => k_is)
    (case a_is_word_list => k_is)
    (case l_is_word_list => k_is)
    (case c_is_word_list => k_is)
    (case k_is_word_list => k_is)
    (case a_need_word => k_is)
    (case l_need_word => k_is)
    (case c_need_word => k_is)
    (case k_need_word => k_is)
    (case a_Devices_init => k_is)
    (case i_Devices_init => k_is)
    (case l_Devices_init => k_is)
    (case c_Devices_init => k_is)
    (case k_Devices_init => k_is)
    (case a_Devices_can => k_is)
    (case i_Devices_can => k_is)
    (case l_Devices_can => k_is)
    (case c_Devices_can => k_is)
    (case k_Devices_can => k_is)
    (case a_Devices_read => k_is)
    (case i_Devices_read => k_is)
    (case l_Devices_read => k_is)
    (case c_Devices_read => k_is)
    (case k_Devices_read => k_is)
    (case a_Devices_write => k_is)
    (case i_Devices_write => k_is)
    (case l_Devices_write => k_is)
    (case c_Devices_write => k_is)
    (case k_Devices_write => k_is)
    (case a_Devices_raised => k_is)
    (case i_Devices_raised => k_is)
    (case l_Devices_raised => k_is)
    (case c_Devices_raised => k_is)
    (case k_Devices_raised => k_is)
    (case a_Devices_counted => k_is)
    (case i_Devices_counted => k_is)
    (case l_Devices_counted => k_is)
    (case c_Devices_counted => k_is)
    (case k_Devices_counted => k_is)
    (case a_Devices_due => k_is)
    (case i_Devices_due => k_is)
    (case l_Devices_due => k_is)
    (case c_Devices_due => k_is)
    (case k_Devices_due => k_is)
    (case a_Devices_lowered => k_is)
    (case i_Devices_lowered => k_is)
    (case l_Devices_lowered => k_is)
    (case c_Devices_lowered => k_is)
    (case k_Devices_lowered => k_is)
    (case a_Devices_outputs => k_is)
    (case i_Devices_outputs => k_is)
    (case l_Devices_outputs => k_is)
    (case c_Devices_outputs => k_is)
    (case k_Devices_outputs => k_is)
    (case a_Devices_left => k_is)
    (case i_Devices_left => k_is)
    (case l_Devices_left => k_is)
    (case c_Devices_left => k_is)
    (case k_Devices_left => k_is)
    (case a_Devices_steps => k_is)
    (case pg_Devices_steps => k_is)
    (case pt_Devices_steps => k_is)
    (case pq_Devices_steps => k_is)
    (case l_Devices_steps => k_is)
    (case c_Devices_steps => k_is)
    (case k_Devices_steps => k_is)
    (case a_Devices_told => k_is)
    (case i_Devices_told => k_is)
    (case l_Devices_told => k_is)
    (case c_Devices_told => k_is)
    (case k_Devices_told => k_is)
    (case a_Devices_copy => k_is)
    (case i_Devices_copy => k_is)
    (case l_Devices_copy => k_is)
    (case c_Devices_copy => k_is)
    (case k_Devices_copy => k_is)
    (case a_Devices_eq => k_is)
    (case i_Devices_eq => k_is)
    (case l_Devices_eq => k_is)
    (case c_Devices_eq => k_is)
    (case k_Devices_eq => k_is)
    (case a_Devicesneed_there => k_is)
    (case i_Devicesneed_there => k_is)
    (case l_Devicesneed_there => k_is)
    (case c_Devicesneed_there => k_is)
    (case k_Devicesneed_there => k_is)
    (case a_are_inputs => k_is)
    (case l_are_inputs => k_is)
    (case c_are_inputs => k_is)
    (case k_are_inputs => k_is)
    (case a_is_line => k_is)
    (case l_is_line => k_is)
    (case c_is_line => k_is)
    (case k_is_line => k_is)
    (case a_need_line => k_is)
    (case l_need_line => k_is)
    (case c_need_line => k_is)
    (case k_need_line => k_is)
    (case a_Lpot => k_is)
    (case l_Lpot => k_is)
    (case c_Lpot => k_is)
    (case k_Lpot => k_is)
    (case a_Ldraw => k_is)
    (case l_Ldraw => k_is)
    (case c_Ldraw => k_is)
    (case k_Ldraw => k_is)
    (case a_Lpick => k_is)
    (case l_Lpick => k_is)
    (case c_Lpick => k_is)
    (case k_Lpick => k_is)
    (case a_Ltold => k_is)
    (case l_Ltold => k_is)
    (case c_Ltold => k_is)
    (case k_Ltold => k_is)
    (case a_Lread => k_is)
    (case l_Lread => k_is)
    (case c_Lread => k_is)
    (case k_Lread => k_is)
    (case a_Ldue => k_is)
    (case l_Ldue => k_is)
    (case c_Ldue => k_is)
    (case k_Ldue => k_is)
    (case a_Ldeed => k_is)
    (case l_Ldeed => k_is)
    (case c_Ldeed => k_is)
    (case k_Ldeed => k_is)
    (case a_Lright => k_is)
    (case l_Lright => k_is)
    (case c_Lright => k_is)
    (case k_Lright => k_is)
    (case a_law => k_is)
    (case l_law => k_is)
    (case c_law => k_is)
    (case k_law => k_is)
    (case z_abs => k_is)
    (case z_all => k_is)
    (case z_bool => k_is)
    (case z_divmod => k_is)
    (case z_int => k_is)
    (case z_isinstance => k_is)
    (case z_len => k_is)
    (case z_list => k_is)
    (case z_max => k_is)
    (case z_range => k_is)
    (case z_repr => k_is)
    (case z_tuple => k_is)
    (case x_WORDS => k_is)
    (case x__INPUT_OUTPUT => k_is)
    (case x__LEFT => k_is)
    (case x__STEPS => k_is)
    (case x__TIMER => k_is)
    (case x__LINES => k_is)
    (case x__TIMER_LINE => k_is)
    (case x__MOST_INPUTS => k_is)
    (case ic_Devices => k_is)
    (case in_Devices => k_is)
    (case it_Devices => k_is)
    (case im_Devices => k_is)

